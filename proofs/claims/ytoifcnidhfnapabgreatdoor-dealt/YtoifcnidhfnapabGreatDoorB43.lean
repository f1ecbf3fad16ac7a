import Derived.Test.YtoifcnidhfnapabGreatDoorB38
import Derived.Test.YtoifcnidhfnapabGreatDoorB42
import Derived.Test.YtoifcnidhfnapabGreatDoorB05
import Derived.Test.YtoifcnidhfnapabGreatDoorB09
import Derived.Test.YtoifcnidhfnapabGreatDoorB21
import Derived.Test.YtoifcnidhfnapabGreatDoorB01
import Derived.Test.YtoifcnidhfnapabGreatDoorB13
set_option linter.unusedVariables false
set_option linter.unusedSimpArgs false
set_option maxRecDepth 100000
set_option maxHeartbeats 16000000
namespace Go.Proofs.YtoifcnidhfnapabGreatDoor
open Go.RowKit Go.Maps Go.Sort Go.Shelf
def ycf (B:List za7):Prop:=∀ a∈B,∀ t∈a.ts,ykz t.1
theorem ycf.vars {B:List za7} (h:ycf B):∀ x∈zbs (B.map (·.ts)),65≤x∧x≤90:=by
 intro x hx
 obtain ⟨h0,hb⟩:=zdn.1 hx
 obtain ⟨ts,hts,t,ht,rfl⟩:=zex.1 hb
 obtain ⟨a,ha,rfl⟩:=List.mem_map.1 hts
 rcases h a ha t ht with h|h
 ·exact absurd h h0
 ·exact h
theorem zic (QB:Nat) (H:List (Nat×Nat)) (B:List za7) (W:World) (hQ:zh7 W QB H B) (hO:zqb H B) (hL:ycf B) :
  Calls Tryz.prog 56 #[.pointer (some ⟨QB,0,none⟩)] W fun e w'=>e=.returned (.int .u32 (zdl (zbs (B.map (·.ts))):Nat))∧Below W.heap.size W w':=by
 have hvl:=zlx (B.map (·.ts)) (fun ts hts=>by obtain ⟨a,ha,rfl⟩:=List.mem_map.1 hts;exact hO.t3 a ha)
 have hb4:=hO.b4
 rw [List.length_map] at hvl
 have hlv:=hL.vars
 obtain ⟨W1,hW1⟩:∃ W1,W1=W.alloc (.cells #[.int .u32 0] 113):=⟨_,rfl⟩
 have hb1:Below W.heap.size W W1:=by rw [hW1];exact (Below.refl _ _).alloc (Nat.le_refl _) _
 have hs1:W1.heap.size=W.heap.size+1:=by rw [hW1];simp
 have hB1:W1.heap[W.heap.size]? = some (.cells #[.int .u32 0] 113 (0,0)):=by rw [hW1];exact zae _ _ _ rfl
 have Hv:=zac (zlw QB H B W1 (hQ.below hb1) hO)
 generalize zbs (B.map (·.ts))=vs at *
 have Hlv:=zac hlv
 have Hb1:=zac hb1
 have HB1:=zac hB1
 clear hQ hO hL hlv hb1 hB1
 go_enter Tryz.func56,Tryz.ntmps56
 go_wp2_with fail
 rw [← hW1]
 clear hW1
 refine (zaa Hv).mono ?_
 rintro e w2 ⟨v,rfl,ho,hb2⟩
 obtain ⟨a,cap,rfl,hx⟩:=zm2 ho
 have hbase:∀ b o,a=some ⟨b,o,none⟩→W1.heap.size≤b:=fun b o e=>by
  obtain ⟨p,c',hpc,_,_,hs'⟩:=zan ho
  cases hpc
  obtain ⟨g,hg,h2,_⟩:=hs' _ e
  cases hg
  exact h2
 have hB2:=(hb2.block _ (by omega)).trans (zaa HB1)
 have hs2:=hb2.size
 have Hx:=zac hx
 have Hb2:=zac ((zaa Hb1).trans (hb2.mono (zaa Hb1).size))
 clear ho hb2 hx Hv
 go_wp2
 go_loopw [9] (fun i wr=>∃ k:Nat,k≤vs.length∧i=.int .i64 k∧wr.heap[W.heap.size]? = some (.cells #[.int .u32 (zdl (vs.take k):Nat)] 113 (0,0))∧KeepX (fun q=>q=W.heap.size) w2 wr) (fun i _=>vs.length - (intOf i).toNat)
 case atStart=>exact ⟨0,Nat.zero_le _,rfl,hB2,KeepX.refl _ _⟩
 case round =>
  obtain ⟨k,hk,rfl,hBk,hkx⟩:=hrel
  by_cases hlt:k<vs.length
  ·have hkz:(k:Int)<(vs.length:Int):=by omega
   obtain ⟨b,o,rfl,hc⟩:=(zaa Hx) k hlt
   have hbl:b<w2.heap.size:=World.block_lt_of_cell? w2 _ hc
   have hbB:=hbase b o rfl
   have hc':wr.cell? ⟨b,o+k,none⟩=some (.int .u8 (vs[k]?.getD 0:Nat)):=(World.cell?_of_block (a:=⟨b,o+k,none⟩) (hkx.blk b hbl (by omega))).trans hc
   have hmem:vs[k]?.getD 0∈vs:=by simp [hlt]
   obtain ⟨x,hx⟩:∃ x,x=vs[k]?.getD 0:=⟨_,rfl⟩
   rw [← hx] at hc' hmem
   obtain ⟨x1,x2⟩:=(zaa Hlv) x hmem
   have hsn:zdl (vs.take (k+1))=zdl (vs.take k) ||| 2 ^ (x - 65):=by
    unfold zdl
    rw [List.take_succ_eq_append_getElem hlt,zrf,hx]
    simp [hlt]
   have hmlt:zdl (vs.take k)<4294967296:=zsq fun y hy=>((zaa Hlv) y (List.mem_of_mem_take hy)).2
   have Hadd:=zac (zyx W.heap.size (zdl (vs.take k)) x wr hBk hmlt x1 x2)
   rw [← hsn] at Hadd
   have Hkx:=zac hkx
   clear hkx hBk hc hx hsn
   go_wp2_with (first|(go_at_call 55;refine (zaa Hadd).mono ?_;rintro e w3 ⟨rfl,hB3,hw3⟩;have hk3:KeepX (fun q=>q=W.heap.size) wr w3:=by { rw [hw3];exact za4 _ _ _ _ };clear hw3))
   have Hk3:=zac hk3
   have HB3:=zac hB3
   clear hk3 hB3
   go_roundw
   case rel=>exact ⟨k+1,by omega,by go_num,zaa HB3,(zaa Hkx).trans (zaa Hk3)⟩
   case measure=>simp [intOf];omega
  ·have hke:k=vs.length:=by omega
   subst hke
   rw [List.take_length] at hBk
   have c0:wr.cell? ⟨W.heap.size,0,none⟩=some (.int .u32 (zdl vs:Nat)):=zab hBk 0
   have HF:=zac (show Below W.heap.size W wr from (zaa Hb2).trans ⟨hkx.os,hkx.tape,hkx.output,hkx.size,fun q hq=>hkx.blk q (by omega) (by omega)⟩)
   clear hkx hBk
   go_wp2
   go_ret
   exact ⟨rfl,zaa HF⟩
end Go.Proofs.YtoifcnidhfnapabGreatDoor
namespace Go.Proofs.YtoifcnidhfnapabGreatDoor
open Go.RowKit Go.Maps
theorem zzq (nm:ByteArray) (W:World) {eb db nD S E:Nat} {st:St} {R:Rel} (hE:za1 W eb db nD S E st) (hn:nm.size≤maxLen) (hR:st nm=some R) :
  Calls Tryz.prog 51 #[.pointer (some ⟨eb,0,none⟩),.string nm] W fun e w'=>e=.returned (.tuple #[.int .i64 R.ar,.bool true])∧w'=W:=by
 have hrun:=hE.hit hn hR
 have c0:=hE.c0
 have Ha:=zac (zog R.rb R.ar R.mb W (hE.rel nm R hR).1)
 clear hE
 go_enter Tryz.func51,Tryz.ntmps51
 go_wp2_with (first|(go_at_call 66;refine (zaa Ha).mono ?_;rintro e w' ⟨rfl,hw⟩;replace hw:=hw.symm;subst hw))
 go_ret2
 exact ⟨rfl,rfl⟩
theorem zt4 (nm:ByteArray) (W:World) {eb db nD S E:Nat} {st:St} (hE:za1 W eb db nD S E st) (hn:nm.size≤maxLen) (hR:st nm=none) :
  Calls Tryz.prog 51 #[.pointer (some ⟨eb,0,none⟩),.string nm] W fun e w'=>e=.returned (.tuple #[.int .i64 0,.bool false])∧w'=W:=by
 have hrun:=hE.miss hn hR
 have c0:=hE.c0
 clear hE
 go_enter Tryz.func51,Tryz.ntmps51
 go_wp2
 go_ret2
 exact ⟨rfl,rfl⟩
def zoh (st:St) (nm:ByteArray) (n:Nat):Int:=if 8<nm.size then 1 else match st nm with|none=>6|some R=>if n=R.ar then 0 else 2
theorem zr3 (nm:ByteArray) (pl:Nat) (a:Option Addr) (n cap:Nat) (W:World) {eb db nD S E:Nat} {st:St} (hE:za1 W eb db nD S E st) (hn:nm.size≤1000) (hl:n≤1000) (har:∀ R,st nm=some R→R.ar≤1000) :
  Calls Tryz.prog 116 #[.agg #[.string nm,.int .i64 pl,.slice a n cap],.func (.func 51) #[.pointer (some ⟨eb,0,none⟩)] #[]] W fun e w'=>e=.returned (.int .i64 (zoh st nm n))∧Below W.heap.size W w':=by
 obtain ⟨W1,hW1⟩:∃ W1,W1=W.alloc (.cells #[.string nm,.int .i64 pl,.slice a n cap] 183):=⟨_,rfl⟩
 have hb1:Below W.heap.size W W1:=by rw [hW1];exact (Below.refl _ _).alloc (Nat.le_refl _) _
 have g1:W1.heap[W.heap.size]? = some (.cells #[.string nm,.int .i64 pl,.slice a n cap] 183 (0,0)):=by rw [hW1];exact zae _ _ _ rfl
 have d0:W1.cell? ⟨W.heap.size,0,none⟩=some (.string nm):=zab g1 0
 have d2:W1.cell? ⟨W.heap.size,2,none⟩=some (.slice a n cap):=zab g1 2
 have hE1:=hE.below hb1
 have Hb1:=zac hb1
 have HE1:=zac hE1
 clear g1 hb1 hE hE1
 have hm:nm.size≤maxLen:=Nat.le_trans hn (by unfold maxLen;omega)
 by_cases h8:8<nm.size
 ·have h8z:(8:Int)<(nm.size:Int):=by omega
  have hans:Hid (zoh st nm n=1):=by unfold zoh Hid;rw [if_pos h8]
  go_enter Tryz.func116,Tryz.ntmps116
  go_wp2_with fail
  rw [← hW1]
  clear hW1
  go_wp2
  go_ret
  exact ⟨zd2 (zaa hans).symm,zaa Hb1⟩
 ·have h8z:¬ (8:Int)<(nm.size:Int):=by omega
  cases hR:st nm with
  | none =>
   have hans:Hid (zoh st nm n=6):=by unfold zoh Hid;rw [if_neg h8,hR]
   have Hc:=zac (zt4 nm W1 (zaa HE1) hm hR)
   go_enter Tryz.func116,Tryz.ntmps116
   go_wp2_with fail
   rw [← hW1]
   clear hW1
   go_wp2_with fail
   refine (zaa Hc).mono ?_
   rintro e w' ⟨rfl,hw⟩
   replace hw:=hw.symm
   subst hw
   go_wp2
   go_ret
   exact ⟨zd2 (zaa hans).symm,zaa Hb1⟩
  | some R =>
   have Hc:=zac (zzq nm W1 (zaa HE1) hm hR)
   have hRa:=har R hR
   by_cases hq:n=R.ar
   ·have hans:Hid (zoh st nm n=0):=by unfold zoh Hid;rw [if_neg h8,hR];exact if_pos hq
    subst hq
    go_enter Tryz.func116,Tryz.ntmps116
    go_wp2_with fail
    rw [← hW1]
    clear hW1
    go_wp2_with fail
    refine (zaa Hc).mono ?_
    rintro e w' ⟨rfl,hw⟩
    replace hw:=hw.symm
    subst hw
    go_wp2
    go_ret
    exact ⟨zd2 (zaa hans).symm,zaa Hb1⟩
   ·have hans:Hid (zoh st nm n=2):=by unfold zoh Hid;rw [if_neg h8,hR];exact if_neg hq
    have hqz:((n:Int) != (R.ar:Int))=true:=by simp;omega
    have hqz':((n:Int) == (R.ar:Int))=false:=by simp;omega
    go_enter Tryz.func116,Tryz.ntmps116
    go_wp2_with fail
    rw [← hW1]
    clear hW1
    go_wp2_with fail
    refine (zaa Hc).mono ?_
    rintro e w' ⟨rfl,hw⟩
    replace hw:=hw.symm
    subst hw
    go_wp2
    go_ret
    exact ⟨zd2 (zaa hans).symm,zaa Hb1⟩
theorem zwv (W:World):Calls Tryz.prog 37 #[.nilIface] W fun e w'=>e=.returned (.tuple #[.int .i64 0,.int .i64 0])∧Below W.heap.size W w':=by
 have has:∀ v W',Calls Tryz.prog 52 #[.nilIface,v] W' fun e w'=>e=.returned (.bool false)∧w'=W':=by
  intro v W'
  go_enter Tryz.func52,Tryz.ntmps52
  go_wp2
  go_ret
  exact ⟨rfl,rfl⟩
 go_enter Tryz.func37,Tryz.ntmps37
 go_wp2_with (first|(go_at_call 52;refine (has _ _).mono ?_;rintro e w' ⟨rfl,hw⟩;replace hw:=hw.symm;subst hw))
 go_ret2
 exact ⟨rfl,(Below.refl _ _).alloc (Nat.le_refl _) _⟩
def zc4 (s:ByteArray):List Nat:=s.data.toList.map (·.toNat)
theorem ycz {s:ByteArray} {k:Nat} (h:k<s.size):(zc4 s)[k]?.getD 0=s[k].toNat:=by
 unfold zc4
 have h':k<s.data.toList.length:=by simpa using h
 rw [List.getElem?_map,List.getElem?_eq_getElem h']
 rfl
theorem zzw (s:ByteArray):(zc4 s).length=s.size:=by
 unfold zc4
 rw [List.length_map]
 rfl
theorem ybo {o:ByteArray} (h:o≠⟨#[]⟩):o.toList.isEmpty=false:=by
 rw [ByteArray.toList_eq]
 obtain ⟨⟨l⟩⟩:=o
 cases l with
 | nil=>exact absurd rfl h
 | cons a l=>rfl
theorem zsz (QB:Nat) (o:ByteArray) (vs:List Nat) (W:World) (hv:∀ x∈vs,65≤x∧x≤90) (hsz:o.size≤1000) (hnd:vs.Nodup) (ho:o=⟨#[]⟩∨(zc4 o).Perm vs)
  (hbl:∀ W',Below W.heap.size W W'→Calls Tryz.prog 56 #[.pointer (some ⟨QB,0,none⟩)] W' fun e w'=>e=.returned (.int .u32 (zdl vs:Nat))∧Below W'.heap.size W' w') :
  Calls Tryz.prog 38 #[.pointer (some ⟨QB,0,none⟩),.string o] W fun e w'=>e=.returned (.bool true)∧Below W.heap.size W w':=by
 obtain ⟨W1,hW1⟩:∃ W1,W1=W.alloc (.cells #[.int .u32 0] 113):=⟨_,rfl⟩
 have hb1:Below W.heap.size W W1:=by rw [hW1];exact (Below.refl _ _).alloc (Nat.le_refl _) _
 have hs1:W1.heap.size=W.heap.size+1:=by rw [hW1];simp
 have hB1:W1.heap[W.heap.size]? = some (.cells #[.int .u32 0] 113 (0,0)):=by rw [hW1];exact zae _ _ _ rfl
 have Hbl:=zac hbl
 have Hb1:=zac hb1
 clear hbl hb1
 have hbo:∀ x∈zc4 o,65≤x∧x≤90:=fun x hx=>by
  rcases ho with rfl|h
  ·simp [zc4] at hx
  ·exact hv x (h.mem_iff.1 hx)
 have hno:(zc4 o).Nodup:=by
  rcases ho with rfl|h
  ·simp [zc4]
  ·exact h.nodup_iff.2 hnd
 have hlen:=zzw o
 go_enter Tryz.func38,Tryz.ntmps38
 go_wp2_with fail
 rw [← hW1]
 clear hW1
 go_wp2
 go_loopw [9] (fun i wr=>∃ k:Nat,k≤o.size∧i=.int .i64 k∧wr.heap[W.heap.size]? = some (.cells #[.int .u32 (zdl ((zc4 o).take k):Nat)] 113 (0,0))∧Below W.heap.size W wr) (fun i _=>o.size - (intOf i).toNat)
 case atStart=>exact ⟨0,Nat.zero_le _,rfl,hB1,zaa Hb1⟩
 case round =>
  obtain ⟨k,hk,rfl,hBk,hbk⟩:=hrel
  by_cases hlt:k<o.size
  ·have hkz:(k:Int)<(o.size:Int):=by omega
   have hat:=ycz hlt
   obtain ⟨x,hx⟩:∃ x,x=o[k].toNat:=⟨_,rfl⟩
   have hmem:x∈zc4 o:=by rw [hx,← hat];simp [hlen,hlt]
   obtain ⟨x1,x2⟩:=hbo x hmem
   have hmlt:zdl ((zc4 o).take k)<4294967296:=zsq fun y hy=>(hbo y (List.mem_of_mem_take hy)).2
   have hsn:zdl ((zc4 o).take (k+1))=zdl ((zc4 o).take k) ||| 2 ^ (x - 65):=by
    unfold zdl
    rw [List.take_succ_eq_append_getElem (by omega),zrf]
    have:(zc4 o)[k]'(by omega)=x:=by rw [hx,← hat];simp [hlen,hlt]
    rw [this]
   have hnot:(zdl ((zc4 o).take k)).testBit (x - 65)=false:=by
    rw [zrg (fun y hy=>(hbo y (List.mem_of_mem_take hy)).1) x1,decide_eq_false_iff_not]
    intro hin
    obtain ⟨j,hj,hjx⟩:=List.mem_take_iff_getElem.1 hin
    have hxk:(zc4 o)[k]'(by omega)=x:=by rw [hx,← hat];simp [hlen,hlt]
    exact (List.pairwise_iff_getElem.1 hno j k (by omega) (by omega) (by omega)) (hjx.trans hxk.symm)
   have c0:wr.cell? ⟨W.heap.size,0,none⟩=some (.int .u32 (zdl ((zc4 o).take k):Nat)):=zab hBk 0
   have hvr:zuw x=true:=by simp [zuw,x1,x2]
   have Hv:∀ W',Hid (Calls Tryz.prog 53 #[.int .u8 x] W' fun e w'=>e=.returned (.bool true)∧w'=W'):=fun W'=>by have:=zsi x W';rw [hvr] at this;exact this
   have Hh:∀ W',Hid (Calls Tryz.prog 54 #[.int .u32 (zdl ((zc4 o).take k):Nat),.int .u8 x] W' fun e w'=>e=.returned (.bool false)∧w'=W'):=fun W'=>by have:=zyy (zdl ((zc4 o).take k)) x W' hmlt x1 x2;rw [hnot] at this;exact this
   have hix:((o[k].toNat:Nat):Int)=(x:Int):=by rw [hx]
   have Hadd:∀ W',W'.heap[W.heap.size]? = some (.cells #[.int .u32 (zdl ((zc4 o).take k):Nat)] 113 (0,0))→Hid (Calls Tryz.prog 55 #[.pointer (some ⟨W.heap.size,0,none⟩),.int .u8 x] W' fun e w'=>e=.returned (.tuple #[])∧w'.heap[W.heap.size]? = some (.cells #[.int .u32 (zdl ((zc4 o).take (k+1)):Nat)] 113 (0,0))∧w'=W'.setCell ⟨W.heap.size,0,none⟩ (.int .u32 (zdl ((zc4 o).take (k+1)):Nat))):=fun W' h=>by rw [hsn];exact zyx W.heap.size _ x W' h hmlt x1 x2
   have HBk:=zac hBk
   have Hbk:=zac hbk
   clear hBk hbk hsn hnot hvr hat hmem hx
   go_wp2_with fail
   go_quiet ((first|(go_at_call 53;exact Calls.quiet_of_same (zaa (Hv _)))|(go_at_call 54;exact Calls.quiet_of_same (zaa (Hh _)))))
   go_wp2_with (first|(go_at_call 55;refine (zaa (Hadd (World.drewN wr _) (by exact zaa HBk))).mono ?_;rintro e w3 ⟨rfl,hB3,hw3⟩;have hb3:Below W.heap.size W w3:=by { rw [hw3];exact ((zaa Hbk).trans (zec _ _ _)).setCell (p:=⟨W.heap.size,0,none⟩) (Nat.le_refl _) _ };clear hw3))
   have HB3:=zac hB3
   have Hb3:=zac hb3
   clear hB3 hb3
   go_roundw
   case rel=>exact ⟨k+1,by omega,by go_num,zaa HB3,zaa Hb3⟩
   case measure=>simp [intOf];omega
  ·have hke:k=o.size:=by omega
   subst hke
   rw [← hlen,List.take_length] at hBk
   have c0:wr.cell? ⟨W.heap.size,0,none⟩=some (.int .u32 (zdl (zc4 o):Nat)):=zab hBk 0
   have Hbk:=zac hbk
   clear hBk hbk
   rcases ho with rfl|hp
   ·go_wp2_with fail
    go_quiet (fail)
    go_wp2
    go_ret
    exact ⟨rfl,(zaa Hbk).trans (zec _ _ _)⟩
   ·by_cases h0:o=⟨#[]⟩
    ·subst h0
     go_wp2_with fail
     go_quiet (fail)
     go_wp2
     go_ret
     exact ⟨rfl,(zaa Hbk).trans (zec _ _ _)⟩
    ·have hem:=ybo h0
     have hoz:(o.toList == ([]:List UInt8))=false:=by rw [List.beq_nil_eq,hem]
     have hme:(zdl (zc4 o):Int)=(zdl vs:Int):=by rw [yap hp]
     have hWl:W.heap.size<wr.heap.size:=World.block_lt_of_cell? wr _ c0
     have Hc:=zac ((zaa Hbl) wr.drew ((zaa Hbk).trans (zec _ 1 _)))
     rw [hme] at c0
     go_wp2_with fail
     go_region_with (first
      | (go_at_call 56;refine (zaa Hc).mono ?_;rintro e w5 ⟨rfl,hb5⟩;have c5:w5.cell? ⟨W.heap.size,0,none⟩=some (.int .u32 (zdl vs:Nat)):=(hb5.cell (p:=⟨W.heap.size,0,none⟩) hWl).trans c0))
     all_goals
      have HF:=zac ((zaa Hbk).trans (((zec _ 1 wr).trans (hb5.mono (Nat.le_refl _))).mono (zaa Hbk).size))
      clear hb5
      go_wp2
      go_ret
      exact ⟨rfl,zaa HF⟩
end Go.Proofs.YtoifcnidhfnapabGreatDoor
namespace Go.Proofs.YtoifcnidhfnapabGreatDoor
open Go.RowKit Go.Maps Go.Sort Go.Shelf
theorem zub (QB:Nat) (H:List (Nat×Nat)) (B:List za7) (W:World) (hQ:zh7 W QB H B) (hO:zqb H B) (hL:ycf B) (hh:∀ x∈H,x.1∈zbs (B.map (·.ts))) :
  Calls Tryz.prog 79 #[.pointer (some ⟨QB,0,none⟩)] W fun e w'=>e=.returned .nilIface∧Below W.heap.size W w':=by
 have Hbl:=zac (zic QB H B W hQ hO hL)
 obtain ⟨hdv,bv,hblk,hhead,_⟩:=hQ.blk
 obtain ⟨ha,hcap,rfl,hx⟩:=hhead
 have hvl:=hL.vars
 have h4:=hO.h4
 have c0:W.cell? ⟨QB,0,none⟩=some (.slice ha H.length hcap):=zab hblk 0
 have hQl:QB<W.heap.size:=(Array.getElem?_eq_some_iff.1 hblk).1
 generalize zbs (B.map (·.ts))=vs at *
 have hmlt:zdl vs<4294967296:=zsq fun y hy=>(hvl y hy).2
 have hmt:∀ x∈vs,(zdl vs).testBit (x - 65)=true:=fun x hx=>by rw [zrg (fun y hy=>(hvl y hy).1) (hvl x hx).1];exact decide_eq_true hx
 obtain ⟨m,hm⟩:∃ m,m=zdl vs:=⟨_,rfl⟩
 rw [← hm] at Hbl hmlt hmt
 have Hx:=zac hx
 have Hh:=zac hh
 have Hvl:=zac hvl
 have Hmt:=zac hmt
 clear hQ hO hL hblk hx hh hvl hmt hm
 go_enter Tryz.func79,Tryz.ntmps79
 go_wp2_with fail
 refine (zaa Hbl).mono ?_
 rintro e w1 ⟨rfl,hb1⟩
 have d0:=(hb1.cell (p:=⟨QB,0,none⟩) hQl).trans c0
 have Hb1:=zac hb1
 clear hb1 Hbl
 go_wp2
 go_loopw [13] (fun i wr=>∃ k:Nat,k≤H.length∧i=.int .i64 k∧Below W.heap.size W wr) (fun i _=>H.length - (intOf i).toNat)
 case atStart=>exact ⟨0,Nat.zero_le _,rfl,zaa Hb1⟩
 case round =>
  obtain ⟨k,hk,rfl,hbk⟩:=hrel
  by_cases hlt:k<H.length
  ·have hkz:(k:Int)<(H.length:Int):=by omega
   obtain ⟨b,o,rfl,e0,e1⟩:=(zaa Hx) k hlt
   have hbl:b<W.heap.size:=World.block_lt_of_cell? W _ e0
   have hmem:(H[k]?.getD (0,0))∈H:=by simp [hlt]
   obtain ⟨⟨x,p⟩,hxp⟩:∃ q,q=H[k]?.getD (0,0):=⟨_,rfl⟩
   rw [← hxp] at e0 e1 hmem
   replace e0:=(hbk.cell (p:=⟨b,o+k*2,none⟩) hbl).trans e0
   replace e1:=(hbk.cell (p:=⟨b,o+k*2+1,none⟩) hbl).trans e1
   dsimp only at e0 e1
   have hxv:=(zaa Hh) _ hmem
   dsimp only at hxv
   obtain ⟨x1,x2⟩:=(zaa Hvl) x hxv
   have Hhas:∀ W',Hid (Calls Tryz.prog 54 #[.int .u32 m,.int .u8 x] W' fun e w'=>e=.returned (.bool true)∧w'=W'):=fun W'=>by have:=zyy m x W' hmlt x1 x2;rw [(zaa Hmt) x hxv] at this;exact this
   have Hbk:=zac (hbk.alloc hbk.size (.cells #[.int .u8 x,.int .i64 p] 220))
   clear hbk hxp hmem
   go_wp2_with (first|(go_at_call 54;refine (zaa (Hhas _)).mono ?_;rintro e w3 ⟨rfl,hw3⟩;replace hw3:=hw3.symm;subst hw3))
   go_roundw
   case rel=>exact ⟨k+1,by omega,by go_num,zaa Hbk⟩
   case measure=>simp [intOf];omega
  ·have Hbk:=zac hbk
   clear hbk
   go_wp2
   go_ret
   exact ⟨rfl,zaa Hbk⟩
theorem zua (QB:Nat) (H:List (Nat×Nat)) (B:List za7) (W:World) (hQ:zh7 W QB H B) {eb db nD S E:Nat} {st:St} (hE:za1 W eb db nD S E st) (hF:zdt st H B) :
  Calls Tryz.prog 80 #[.pointer (some ⟨QB,0,none⟩),.func (.func 51) #[.pointer (some ⟨eb,0,none⟩)] #[]] W fun e w'=>e=.returned .nilIface∧Below W.heap.size W w':=by
 obtain ⟨hdv,bv,hblk,_,hbody⟩:=hQ.blk
 obtain ⟨ba,bcap,rfl,hx⟩:=hbody
 have h4:=hF.ok.b4
 have c1:W.cell? ⟨QB,1,none⟩=some (.slice ba B.length bcap):=zab hblk 1
 have Hx:=zac hx
 have HE:=zac hE
 have HF:=zac hF
 clear hQ hE hF hblk hx
 go_enter Tryz.func80,Tryz.ntmps80
 go_wp2
 go_loopw [13] (fun i wr=>∃ k:Nat,k≤B.length∧i=.int .i64 k∧Below W.heap.size W wr) (fun i _=>B.length - (intOf i).toNat)
 case atStart=>exact ⟨0,Nat.zero_le _,rfl,Below.refl _ _⟩
 case round =>
  obtain ⟨k,hk,rfl,hbk⟩:=hrel
  by_cases hlt:k<B.length
  ·have hkz:(k:Int)<(B.length:Int):=by omega
   obtain ⟨b,o,tv,rfl,e0,e1,e2,ht⟩:=(zaa Hx) k hlt
   have hbl:b<W.heap.size:=World.block_lt_of_cell? W _ e0
   have hmem:(B[k]?.getD zat)∈B:=by simp [hlt]
   obtain ⟨at_,hat⟩:∃ at_,at_=B[k]?.getD zat:=⟨_,rfl⟩
   rw [← hat] at e0 e1 ht hmem
   have hn8:=(zaa HF).nm _ hmem
   obtain ⟨R,hR,har⟩:=(zaa HF).rel _ hmem
   have ht3:=(zaa HF).ok.t3 _ hmem
   replace e0:=(hbk.cell (p:=⟨b,o+k*3,none⟩) hbl).trans e0
   replace e1:=(hbk.cell (p:=⟨b,o+k*3+1,none⟩) hbl).trans e1
   replace e2:=(hbk.cell (p:=⟨b,o+k*3+2,none⟩) hbl).trans e2
   obtain ⟨nm,pl,ts⟩:=at_
   dsimp only at *
   obtain ⟨ta,tcap,rfl,_⟩:=ht
   obtain ⟨wx,hwx⟩:∃ wx,wx=wr.alloc (.cells #[.string nm,.int .i64 pl,.slice ta ts.length tcap] 183):=⟨_,rfl⟩
   have hb2:Below W.heap.size W wx:=by rw [hwx];exact hbk.alloc hbk.size _
   have gx:wx.heap[wr.heap.size]? = some (.cells #[.string nm,.int .i64 pl,.slice ta ts.length tcap] 183 (0,0)):=by rw [hwx];exact zae _ _ _ rfl
   have g0:wx.cell? ⟨wr.heap.size,0,none⟩=some (.string nm):=zab gx 0
   have g1:wx.cell? ⟨wr.heap.size,1,none⟩=some (.int .i64 pl):=zab gx 1
   have g2:wx.cell? ⟨wr.heap.size,2,none⟩=some (.slice ta ts.length tcap):=zab gx 2
   clear gx
   have hz:zoh st nm ts.length=0:=by
    unfold zoh
    rw [if_neg (by omega),hR]
    exact if_pos har
   have Hc:∀ W',Below W.heap.size W W'→Hid (Calls Tryz.prog 116 #[.agg #[.string nm,.int .i64 pl,.slice ta ts.length tcap],.func (.func 51) #[.pointer (some ⟨eb,0,none⟩)] #[]] W' fun e w'=>e=.returned (.int .i64 0)∧Below W'.heap.size W' w'):=fun W' h=>by
    have:=zr3 nm pl ta ts.length tcap W' ((zaa HE).below h) (by omega) (by omega) (fun R' hR'=>by rw [hR] at hR';cases hR';omega)
    rw [hz] at this
    exact this
   have Hb2:=zac hb2
   have Hc':=Hc wx hb2
   clear hbk hb2 hat hmem hz Hc har
   go_upto_region 4 with fail
   rw [← hwx]
   clear hwx e0 e1 e2
   go_wp2_with fail
   refine (zaa Hc').mono ?_
   rintro e w3 ⟨rfl,hb3⟩
   have Hb3:=zac ((zaa Hb2).trans (hb3.mono (zaa Hb2).size))
   clear hb3
   go_wp2
   go_roundw
   case rel=>exact ⟨k+1,by omega,by go_num,zaa Hb3⟩
   case measure=>simp [intOf];omega
  ·have Hbk:=zac hbk
   clear hbk
   go_wp2
   go_ret
   exact ⟨rfl,zaa Hbk⟩
theorem yc1 (QB:Nat) (H:List (Nat×Nat)) (B:List za7) (W:World) (hQ:zh7 W QB H B) {eb db nD S E:Nat} {st:St} (hE:za1 W eb db nD S E st) (hF:zdt st H B) (hL:ycf B) :
  Calls Tryz.prog 50 #[.pointer (some ⟨QB,0,none⟩),.func (.func 51) #[.pointer (some ⟨eb,0,none⟩)] #[]] W fun e w'=>e=.returned .nilIface∧Below W.heap.size W w':=by
 have Hh:=zac (zub QB H B W hQ hF.ok hL (fun x hx=>zdn.2 (hF.head x hx)))
 have Hb:∀ W',Below W.heap.size W W'→Hid (Calls Tryz.prog 80 #[.pointer (some ⟨QB,0,none⟩),.func (.func 51) #[.pointer (some ⟨eb,0,none⟩)] #[]] W' fun e w'=>e=.returned .nilIface∧Below W'.heap.size W' w'):=fun W' h=>zua QB H B W' (hQ.below h) (hE.below h) hF
 clear hQ hE hF hL
 go_enter Tryz.func50,Tryz.ntmps50
 go_wp2_with fail
 refine (zaa Hh).mono ?_
 rintro e w1 ⟨rfl,hb1⟩
 have Hc:=zac (zaa (Hb w1 hb1))
 have Hb1:=zac hb1
 clear hb1 Hh Hb
 go_wp2_with (first
  | (go_at_call 75;refine (zuu _ _).mono ?_;rintro e w4 ⟨rfl,hw4⟩;replace hw4:=hw4.symm;subst hw4)
  | (go_at_call 80;refine (zaa Hc).mono ?_;rintro e w2 ⟨rfl,hb2⟩;have Hb2:=zac hb2;clear hb2))
 go_ret
 exact ⟨rfl,(zaa Hb1).trans ((zaa Hb2).mono (zaa Hb1).size)⟩
theorem zvh (s:ByteArray) (hsz:s.size≤300) (hs:List (Nat×Nat)) (ats:List zb3) (hp:zfd s=.ok (hs,ats)) (W:World) {eb db nD S E:Nat} {st:St} (hE:za1 W eb db nD S E st) (hF:zdt st hs (ats.map zb3.q)) (hL:ycf (ats.map zb3.q)) :
  Calls Tryz.prog 36 #[.pointer (some ⟨eb,0,none⟩),.string s] W fun e w'=>∃ QB,e=.returned (.tuple #[.pointer (some ⟨QB,0,none⟩),.nilIface])∧zh7 w' QB hs (ats.map zb3.q)∧Below W.heap.size W w':=by
 have HE:=zac hE
 have HF:=zac hF
 have HL:=zac hL
 have Hp:=zac hp
 clear hE hF hL hp
 go_enter Tryz.func36,Tryz.ntmps36
 go_wp2_with fail
 refine (yhs s hsz W).mono ?_
 rintro e w1 (⟨hs',xs,hv,bv,QB,h1,rfl,hq,h2,h3,h4,h5,hb1⟩|⟨q,v,h1,rfl,_⟩)
 ·rw [zaa Hp] at h1
  cases h1
  have hQ1:zh7 w1 QB hs ((xs.map (·.1)).map zb3.q):=⟨hv,bv,h2,zw2 h3,zwn h4 h5⟩
  have Hc:=zac (yc1 QB hs ((xs.map (·.1)).map zb3.q) w1 hQ1 ((zaa HE).below hb1) (zaa HF) (zaa HL))
  have Hb1:=zac hb1
  have HQ1:=zac hQ1
  clear h2 h3 h4 h5 hb1 hQ1
  go_wp2_with (first|(go_at_call 50;refine (zaa Hc).mono ?_;rintro e w2 ⟨rfl,hb2⟩;have Hb2:=zac hb2;clear hb2))
  go_ret2
  exact ⟨QB,rfl,(zaa HQ1).below (zaa Hb2),(zaa Hb1).trans ((zaa Hb2).mono (zaa Hb1).size)⟩
 ·rw [zaa Hp] at h1
  cases h1
theorem zu7 (QB:Nat) (H:List (Nat×Nat)) (B:List za7) (o:ByteArray) (W:World) (hQ:zh7 W QB H B) (hO:zqb H B) (hL:ycf B) (ho:o=⟨#[]⟩∨(zbz o).Perm (zbs (B.map (·.ts)))) :
  Calls Tryz.prog 38 #[.pointer (some ⟨QB,0,none⟩),.string o] W fun e w'=>e=.returned (.bool true)∧Below W.heap.size W w':=by
 have hvl:=zlx (B.map (·.ts)) (fun ts hts=>by obtain ⟨a,ha,rfl⟩:=List.mem_map.1 hts;exact hO.t3 a ha)
 have hb4:=hO.b4
 rw [List.length_map] at hvl
 refine zsz QB o _ W hL.vars ?_ (zpx _) ho fun W' h=>zic QB H B W' (hQ.below h) hO hL
 rcases ho with rfl|h
 ·decide
 ·rw [← zet,h.length_eq];omega
namespace H
def zev (r:H4):List Value:=[.int .i64 r.1,.int .i64 r.2.1,.int .i64 r.2.2.1,.int .i64 r.2.2.2]
def zuz (r:H4):List Int:=[r.1,r.2.1,r.2.2.1,r.2.2.2]
def zf7 (x y:H4):Int:=ztp (zuz x) (zuz y)
theorem ylk {w:World} {b:Nat} {t:TypeId} (x y z u:Int) (h:w.heap[b]? = some (.cells #[.int .i64 x,.int .i64 y,.int .i64 z,.int .i64 u] t (0,0))):zbu w (.slice (some ⟨b,0,none⟩) 4 4) [x,y,z,u]:=by
 refine ⟨some ⟨b,0,none⟩,4,rfl,fun i hi=>⟨b,0,rfl,?_⟩⟩
 rw [zab h]
 match i,hi with
 | 0,_=>rfl
 | 1,_=>rfl
 | 2,_=>rfl
 | 3,_=>rfl
theorem zgt (x y:H4) (W:World):Calls Tryz.prog 256 #[.agg #[.int .i64 x.1,.int .i64 x.2.1,.int .i64 x.2.2.1,.int .i64 x.2.2.2],.agg #[.int .i64 y.1,.int .i64 y.2.1,.int .i64 y.2.2.1,.int .i64 y.2.2.2]] W fun e w'=>e=.returned (.int .i64 (zf7 x y))∧∃ q os',w'=grow (W.drewN q) os':=by
 obtain ⟨x1,x2,x3,x4⟩:=x
 obtain ⟨y1,y2,y3,y4⟩:=y
 dsimp only
 obtain ⟨W2,hW2⟩:∃ W2,W2=(W.alloc (.cells #[.int .i64 x1,.int .i64 x2,.int .i64 x3,.int .i64 x4] 92)).alloc (.cells #[.int .i64 y1,.int .i64 y2,.int .i64 y3,.int .i64 y4] 92):=⟨_,rfl⟩
 have hx:zbu W2 (.slice (some ⟨W.heap.size,0,none⟩) 4 4) [x1,x2,x3,x4]:=ylk (t:=92) x1 x2 x3 x4 (by rw [hW2,Below.heap_alloc _ _ _ (by simp)];exact zae _ _ _ rfl)
 have hy:zbu W2 (.slice (some ⟨W.heap.size+1,0,none⟩) 4 4) [y1,y2,y3,y4]:=ylk (t:=92) y1 y2 y3 y4 (by rw [hW2];exact zae _ _ _ (by simp))
 have Hx:=zac hx
 have Hy:=zac hy
 have HW:=zac hW2
 have Hr:Hid (ztp [x1,x2,x3,x4] [y1,y2,y3,y4]=zf7 (x1,x2,x3,x4) (y1,y2,y3,y4)):=rfl
 clear hx hy
 go_enter Tryz.func256,Tryz.ntmps256
 go_wp2
 rw [← hW2]
 clear hW2
 go_quiet ((go_at_call 200;exact Calls.quiet_of_same (zot _ _ [x1,x2,x3,x4] [y1,y2,y3,y4] _ (by exact (zaa Hx).drewN _) (by exact (zaa Hy).drewN _) rfl (by simp))))
 go_wp2
 go_ret
 refine ⟨zd2 (zaa Hr),nq,#[.cells #[.int .i64 x1,.int .i64 x2,.int .i64 x3,.int .i64 x4] 92,.cells #[.int .i64 y1,.int .i64 y2,.int .i64 y3,.int .i64 y4] 92],?_⟩
 rw [zaa HW,alloc_eq_grow,alloc_eq_grow,grow_grow]
 rfl
theorem ygf (blk off size:Nat) (w:World):CmpLays Tryz.prog 256 #[] zev 4 zf7 blk off size w:=
 fun _ _ _ _ x y=>zgt x y _
def ltR (x y:H4):Prop:=x.1<y.1∨(x.1=y.1∧(x.2.1<y.2.1∨(x.2.1=y.2.1∧(x.2.2.1<y.2.2.1∨(x.2.2.1=y.2.2.1∧x.2.2.2<y.2.2.2)))))
theorem zre (x y:H4):ltOf zf7 x y=true↔ltR x y:=by
 unfold ltOf zf7 zuz ltR
 rw [decide_eq_true_iff]
 simp only [ztp]
 by_cases h1:x.1=y.1
 ·rw [if_pos ((zee _ _).2 h1)]
  by_cases h2:x.2.1=y.2.1
  ·rw [if_pos ((zee _ _).2 h2)]
   by_cases h3:x.2.2.1=y.2.2.1
   ·rw [if_pos ((zee _ _).2 h3)]
    by_cases h4:x.2.2.2=y.2.2.2
    ·rw [if_pos ((zee _ _).2 h4)];simp;omega
    ·rw [if_neg (fun e=>h4 ((zee _ _).1 e)),zj4];omega
   ·rw [if_neg (fun e=>h3 ((zee _ _).1 e)),zj4];omega
  ·rw [if_neg (fun e=>h2 ((zee _ _).1 e)),zj4];omega
 ·rw [if_neg (fun e=>h1 ((zee _ _).1 e)),zj4];omega
theorem zcu (x y:H4):ltOf zf7 x y=false↔¬ ltR x y:=by
 rw [← zre];simp
theorem ykw:SWO (ltOf zf7) where
 irrefl x:=by rw [zcu];unfold ltR;omega
 trans x y z h1 h2:=by rw [zre] at *;unfold ltR at *;omega
 ntrans x y z h1 h2:=by rw [zcu] at *;unfold ltR at *;omega
theorem invH:∀ key kl,keyOf Tryz.prog 92 key=some kl→∃ x:H4,key=.agg #[.int .i64 x.1,.int .i64 x.2.1,.int .i64 x.2.2.1,.int .i64 x.2.2.2]:=by
 intro key kl h
 obtain ⟨r,_,hv,_⟩:=zj8 h
 exact ⟨r,hv⟩
theorem yla {D:DataW Unit} {g:H4→Int} (hrep:zyj D g) {x:H4} {c:Int} {kl:Lit} {y:DataW Unit×List MemPlace} (hkey:keyOf Tryz.prog 92 (.agg #[.int .i64 x.1,.int .i64 x.2.1,.int .i64 x.2.2.1,.int .i64 x.2.2.2])=some kl)
  (hv:plainElem (H:=Unit) Tryz.prog 2 (.int .i64 c)=some y) (hat:∀ zd,D.atKey kl zd=y.1):WfH x∧kl=zjp x∧c=g x:=by
 obtain ⟨r,hr,hv',rfl⟩:=zj8 hkey
 simp only [ykt,Value.agg.injEq] at hv'
 have e:x=r:=by
  simp at hv'
  exact Prod.ext hv'.1 (Prod.ext hv'.2.1 (Prod.ext hv'.2.2.1 hv'.2.2.2))
 subst e
 obtain ⟨c',hc',rfl,_⟩:=plainElem_int_inv Tryz.underlying2 hv
 have e1:=hrep.at_ x hr
 rw [hat] at e1
 refine ⟨hr,rfl,?_⟩
 cases hc'
 exact zdk e1
def ygk (Dg:DataW Unit) (left:Lit→Bool) (r:H4):Prop:=Maps.has Dg (zjp r)=true∧left (zjp r)=false
theorem zz1 {Dg:DataW Unit} {left:Lit→Bool} {x:H4} (hx:WfH x) (hh:Maps.has Dg (zjp x)=true):∀ r,WfH r→((ygk Dg left r∨r=x)↔ygk Dg (fun z=>left z && !z.sameKey (zjp x)) r):=by
 intro r hr
 unfold ygk
 by_cases e:r=x
 ·subst e
  simp [hh,WideAt.sameKey_self (zi6 r)]
 ·have:(zjp r).sameKey (zjp x)=false:=sameKey_ne (fun e'=>e (zi5 hr hx e'))
  simp [this,e]
theorem ziz (w:World) (a b c d:Value) (t:TypeId):∀ j u,[a,b,c,d][j]? = some u→(w.alloc (.cells #[a,b,c,d] t)).cell? ((⟨w.heap.size,0,none⟩:Addr).add j)=some u:=by
 intro j u hj
 rw [Addr.add_lit,Nat.zero_add,zab (zae w _ _ rfl)]
 simpa using hj
theorem zxr {w:World} {b n:Nat} {D:DataW Unit} (h:w.ownsMap Tryz.prog 92 (plainElem Tryz.prog 2) b n D):zh5 D:=by
 intro es he
 obtain ⟨es',e1,_,e3⟩:=h.entries zwf
 rw [he] at e1
 cases e1
 exact e3
structure zcg (D:DataW Unit) (left:Lit→Bool) (xs:List H4):Prop where
 wf:∀ x∈xs,WfH x
 apart:xs.Pairwise (·≠·)
 mem:∀ r,WfH r→(r∈xs↔Maps.has D (zjp r)=true∧left (zjp r)=false)
theorem zcg.start (D:DataW Unit):zcg D (Maps.has D) []:=
 ⟨fun x hx=>by simp at hx,List.Pairwise.nil,fun r _=>by simp⟩
theorem zcg.step {D:DataW Unit} {left:Lit→Bool} {xs:List H4} (h:zcg D left xs) {x:H4} (hx:WfH x) (hh:Maps.has D (zjp x)=true) (hl:left (zjp x)=true):zcg D (fun z=>left z && !z.sameKey (zjp x)) (xs ++ [x]):=by
 have hnx:x ∉ xs:=fun hm=>by have:=((h.mem x hx).1 hm).2;rw [hl] at this;cases this
 refine ⟨fun y hy=>?_,?_,fun r hr=>?_⟩
 ·rcases List.mem_append.1 hy with hy|hy
  ·exact h.wf y hy
  ·simp at hy;subst hy;exact hx
 ·refine List.pairwise_append.2 ⟨h.apart,by simp,fun a ha b hb=>?_⟩
  simp at hb
  subst hb
  exact fun e=>hnx (e ▸ ha)
 ·simp only [List.mem_append,List.mem_singleton]
  rw [h.mem r hr]
  have:=zz1 (Dg:=D) (left:=left) hx hh r hr
  unfold ygk at this
  exact this
theorem zsl (n:Nat) (hn:1≤n) (l Bm b nn:Nat) (D:DataW Unit) (g:H4→Int) (hrep:zyj D g) (J Jx:List H4→World→Prop)
  (hY:∀ pre x W,J pre W→pre.length<Maps.size D→YieldAt Fence.wide (n - 1) Tryz.prog l #[.agg #[.int .i64 x.1,.int .i64 x.2.1,.int .i64 x.2.2.1,.int .i64 x.2.2.2]] W fun e W' =>
   (e=.returned (.bool true)∧J (pre ++ [x]) W'∧KeepsWalks W W')∨(e=.returned (.bool false)∧Jx (pre ++ [x]) W'))
  (W:World) (hJ:AbidesFrom W.heap.size J) (hm:W.cell? ⟨Bm,0,none⟩=some (.map (some b))) (hown:W.ownsMap Tryz.prog 92 (plainElem Tryz.prog 2) b nn D) (h0:J [] W) :
  CallsIn Fence.wide n Tryz.prog 98 #[.func (.yield l) #[] #[],.pointer (some ⟨Bm,0,none⟩)] W fun e W'=>(∃ v,e=.returned v) ∧
   ((∃ xs,zcg D (fun _=>false) xs∧J xs W')∨(∃ pre,True∧Jx pre W')):=by
 refine callsIn_of_wp Tryz.func98 rfl trivial ?_ rfl
 simp only [Tryz.ntmps98,List.size_toArray,List.length_cons,List.length_nil,Nat.reduceAdd,Nat.reduceSub,Array.replicate_succ,Array.replicate_zero,List.push_toArray,List.append_toArray,List.nil_append,List.cons_append]
 gi_wp2_with (first
  | (gi_at_range;refine wpListIn_range_own _ rfl _ 66 rfl 92 2 zwf Tryz.underlying66 _ b nn _ rfl hown ?_;intro w0 hrg0 hg0 hs0)
  | gi_in)
 go_frame
 gi_loopw [6] (fun _ wr=>∃ (left:Lit→Bool) (cnt:Nat) (ss:List H4),wr.ranges Tryz.prog 92 (plainElem Tryz.prog 2) b W.heap.size nn D left cnt∧ss.length+cnt≤Maps.size D∧zcg D left ss∧J ss wr) (fun _ wr=>wr.rangeLeft b W.heap.size)
 case atStart=>exact ⟨_,_,[],hrg0,by simp,zcg.start D,hJ [] W w0 none h0 hg0 (fun r e=>by cases e)⟩
 case round =>
  obtain ⟨left,cnt,ss,hrg,hcs,hC,hJs⟩:=hrel
  gi_wp2_with (first
   | (gi_at_next;refine wpListIn_next_ranges _ rfl _ rfl 92 zwf (plainElem Tryz.prog 2) (fun x:H4=>.agg #[.int .i64 x.1,.int .i64 x.2.1,.int .i64 x.2.2.1,.int .i64 x.2.2.2]) (Value.int .i64) invH zo4 b W.heap.size nn D left cnt rfl hrg ?_ ?_)
   | gi_in)
  ·intro _ hl0
   gi_wp2
   go_end0
   exact ⟨⟨_,rfl⟩,.inl ⟨ss,⟨hC.wf,hC.apart,fun r hr=>by rw [hC.mem r hr,hl0]⟩,hJs⟩⟩
  ·intro x1 x2 x3 x4 c kl y1 y2 w1 cnt1 hkey hlk hv hat hrg1 hlt hg1 hs1 hen
   obtain ⟨hwx,hkl,hc⟩:=yla hrep (x:=(x1,x2,x3,x4)) (y:=(y1,y2)) hkey hv hat
   have hhas:Maps.has D (zjp (x1,x2,x3,x4))=true:=by rw [← hkl];exact has_true_of_atKey hat
   have hJ1:J ss w1:=hJ ss wr w1 (some W.heap.size) hJs hg1 (fun r e=>by cases e;exact ⟨Nat.le_refl _,hrg.iter_walk⟩)
   have hJ2:J ss (w1.alloc (.cells #[.int .i64 x1,.int .i64 x2,.int .i64 x3,.int .i64 x4] 92)):=hJ ss w1 _ none hJ1 (World.grownBy_alloc _ _ none) (fun r e=>by cases e)
   obtain ⟨fn,tmps,assign,body,hy,hR⟩:=hY ss (x1,x2,x3,x4) _ hJ2 (by omega)
   rw [hkl] at hlk hrg1
   have hC2:=hC.step hwx hhas hlk
   have hrg2:=hrg1.alloc (.cells #[.int .i64 x1,.int .i64 x2,.int .i64 x3,.int .i64 x4] 92)
   dsimp only at hy
   clear hkey hv hat hs1 hc hkl
   gi_wp2
   refine hR.mono ?_
   rintro e W3 (⟨rfl,hJ3,hk3⟩|⟨rfl,hJx3⟩)
   ·gi_wp2
    have hrg3:=hrg2.of_walks hk3
    go_roundw
    case rel=>exact ⟨_,cnt1,ss ++ [(x1,x2,x3,x4)],hrg3,by simp;omega,hC2,hJ3⟩
    case measure=>rw [hrg3.left_eq,hrg.left_eq];exact hlt
   ·gi_wp2
    refine bodyPost_ret (results_none rfl _ _ _) rfl ?_
    exact ⟨⟨_,rfl⟩,.inr ⟨ss ++ [(x1,x2,x3,x4)],trivial,hJx3⟩⟩
end H
end Go.Proofs.YtoifcnidhfnapabGreatDoor
