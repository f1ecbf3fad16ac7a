import Derived.Test.YtoifcnidhfnapaaGreatDoorB43
import Derived.Test.YtoifcnidhfnapaaGreatDoorB32
import Derived.Test.YtoifcnidhfnapaaGreatDoorB39
import Derived.Test.YtoifcnidhfnapaaGreatDoorB05
import Derived.Test.YtoifcnidhfnapaaGreatDoorB40
set_option linter.unusedVariables false
set_option linter.unusedSimpArgs false
set_option maxRecDepth 100000
set_option maxHeartbeats 16000000
namespace Go.Proofs.YtoifcnidhfnapaaGreatDoor
open Go.RowKit Go.Maps Go.Sort Go.Shelf
theorem zl5 {α:Type} (n:Nat) (c:α→List Value) (hc:∀ x,(c x).length=n):∀ (xs:List α) (i j:Nat) (hi:i<xs.length),j<n→(xs.flatMap c)[i*n+j]? = (c xs[i])[j]?
 | [],i,j,hi,_=>by simp at hi
 | x :: xs,0,j,_,hj=>by
  rw [List.flatMap_cons,Nat.zero_mul,Nat.zero_add,List.getElem?_append_left (by rw [hc];exact hj)]
  rfl
 | x :: xs,i+1,j,hi,hj=>by
  have e:(i+1)*n=i*n+n:=by rw [Nat.add_mul,Nat.one_mul]
  rw [List.flatMap_cons,List.getElem?_append_right (by rw [hc,e];omega),hc]
  have:(i+1)*n+j - n=i*n+j:=by rw [e];omega
  rw [this,zl5 n c hc xs i j (by simpa using hi) hj]
  rfl
theorem ziq {i n k j:Nat} (hi:i<n) (hj:j<k):i*k+j<n*k:=by
 have:(i+1)*k≤n*k:=Nat.mul_le_mul_right _ hi
 rw [Nat.add_mul,Nat.one_mul] at this
 omega
theorem zvp {w:World} {base:Nat} {v:Value} {ts:List Trm} (h:w.ownsRow base 327 2 v ts.length (zgf ts)):zhr w v ts:=by
 obtain ⟨p,c,rfl,hle,hn,hs⟩:=zak h
 refine ⟨p,c,rfl,fun j hj=>?_⟩
 cases p with
 | none=>have:=(hn rfl).1;omega
 | some ad =>
  obtain ⟨g,rfl,_,_,hc⟩:=hs ad rfl
  refine ⟨g,0,rfl,?_,?_⟩
  ·rw [Nat.zero_add,hc _ (by have:=ziq hj (show 0<2 by omega);omega)]
   have:=zl5 2 zvo (fun _=>rfl) ts j 0 hj (by omega)
   rw [Nat.add_zero] at this
   rw [show zgf ts=ts.flatMap zvo from rfl,this]
   simp [zvo,hj]
  ·rw [Nat.zero_add,hc _ (ziq hj (by omega))]
   have:=zl5 2 zvo (fun _=>rfl) ts j 1 hj (by omega)
   rw [show zgf ts=ts.flatMap zvo from rfl,this]
   simp [zvo,hj]
theorem zw1 {w:World} {base:Nat} {v:Value} {hs:List (Nat×Nat)} (h:w.ownsRow base 307 2 v hs.length (zl7 hs)):ztj w v hs:=by
 obtain ⟨p,c,rfl,hle,hn,hs'⟩:=zak h
 refine ⟨p,c,rfl,fun j hj=>?_⟩
 cases p with
 | none=>have:=(hn rfl).1;omega
 | some ad =>
  obtain ⟨g,rfl,_,_,hc⟩:=hs' ad rfl
  refine ⟨g,0,rfl,?_,?_⟩
  ·rw [Nat.zero_add,hc _ (by have:=ziq hj (show 0<2 by omega);omega)]
   have:=zl5 2 (fun x:Nat×Nat=>[Value.int .u8 x.1,Value.int .i64 x.2]) (fun _=>rfl) hs j 0 hj (by omega)
   rw [Nat.add_zero] at this
   rw [show zl7 hs=hs.flatMap fun x=>[Value.int .u8 x.1,Value.int .i64 x.2] from rfl,this]
   simp [hj]
  ·rw [Nat.zero_add,hc _ (ziq hj (by omega))]
   have:=zl5 2 (fun x:Nat×Nat=>[Value.int .u8 x.1,Value.int .i64 x.2]) (fun _=>rfl) hs j 1 hj (by omega)
   rw [show zl7 hs=hs.flatMap fun x=>[Value.int .u8 x.1,Value.int .i64 x.2] from rfl,this]
   simp [hj]
def zba.q (a:zba):zbb:=⟨a.nm,a.pl,a.ts⟩
theorem zwk {w:World} {base:Nat} {v:Value} {xs:List (zba×Value)} (h:w.ownsRow base 268 3 v xs.length (zkv xs)) (ht:∀ x∈xs,w.ownsRow base 327 2 x.2 x.1.ts.length (zgf x.1.ts)):ztg w v ((xs.map (·.1)).map zba.q):=by
 obtain ⟨p,c,rfl,hle,hn,hs'⟩:=zak h
 refine ⟨p,c,by simp,fun j hj=>?_⟩
 have hj':j<xs.length:=by simpa using hj
 have he:(((xs.map (·.1)).map zba.q)[j]?.getD zat)=(xs[j]).1.q:=by simp [hj']
 rw [he]
 cases p with
 | none=>have:=(hn rfl).1;omega
 | some ad =>
  obtain ⟨g,rfl,_,_,hc⟩:=hs' ad rfl
  have hat:∀ k,k<3→w.cell? ⟨g,0+j*3+k,none⟩=[Value.string (xs[j]).1.nm,Value.int .i64 (xs[j]).1.pl,(xs[j]).2][k]?:=fun k hk=>by
   rw [Nat.zero_add,hc _ (ziq hj' hk)]
   have:=zl5 3 (fun x:zba×Value=>[Value.string x.1.nm,Value.int .i64 x.1.pl,x.2]) (fun _=>rfl) xs j k hj' hk
   rw [show zkv xs=xs.flatMap fun x=>[Value.string x.1.nm,Value.int .i64 x.1.pl,x.2] from rfl,this]
  exact ⟨g,0,(xs[j]).2,rfl,hat 0 (by omega),hat 1 (by omega),hat 2 (by omega),zvp (ht _ (List.getElem_mem hj'))⟩
abbrev yfr (v:Nat):Prop:=v=0∨65≤v∧v≤90
def yb4 (B:List zbb):Prop:=∀ a∈B,∀ t∈a.ts,yfr t.1
theorem yb4.vars {B:List zbb} (h:yb4 B):∀ x∈zbl (B.map (·.ts)),65≤x∧x≤90:=by
 intro x hx
 obtain ⟨h0,hb⟩:=zdm.1 hx
 obtain ⟨ts,hts,t,ht,rfl⟩:=ze1.1 hb
 obtain ⟨a,ha,rfl⟩:=List.mem_map.1 hts
 rcases h a ha t ht with h|h
 ·exact absurd h h0
 ·exact h
theorem zim (QB:Nat) (H:List (Nat×Nat)) (B:List zbb) (W:World) (hQ:zii W QB H B) (hO:zpt H B) (hL:yb4 B) :
  Calls Tryz.prog 104 #[.pointer (some ⟨QB,0,none⟩)] W fun e w'=>e=.returned (.int .u32 (zdl (zbl (B.map (·.ts))):Nat))∧Below W.heap.size W w':=by
 have hvl:=zlm (B.map (·.ts)) (fun ts hts=>by obtain ⟨a,ha,rfl⟩:=List.mem_map.1 hts;exact hO.t3 a ha)
 have hb4:=hO.b4
 rw [List.length_map] at hvl
 have hlv:=hL.vars
 obtain ⟨W1,hW1⟩:∃ W1,W1=W.alloc (.cells #[.int .u32 0] 180):=⟨_,rfl⟩
 have hb1:Below W.heap.size W W1:=by rw [hW1];exact (Below.refl _ _).alloc (Nat.le_refl _) _
 have hs1:W1.heap.size=W.heap.size+1:=by rw [hW1];simp
 have hB1:W1.heap[W.heap.size]? = some (.cells #[.int .u32 0] 180 (0,0)):=by rw [hW1];exact zae _ _ _ rfl
 have Hv:=zac (zll QB H B W1 (hQ.below hb1) hO)
 generalize zbl (B.map (·.ts))=vs at *
 have Hlv:=zac hlv
 have Hb1:=zac hb1
 have HB1:=zac hB1
 clear hQ hO hL hlv hb1 hB1
 go_enter Tryz.func104,Tryz.ntmps104
 go_wp2_with fail
 rw [← hW1]
 clear hW1
 refine (zaa Hv).mono ?_
 rintro e w2 ⟨v,rfl,ho,hb2⟩
 obtain ⟨a,cap,rfl,hx⟩:=zmx ho
 have hbase:∀ b o,a=some ⟨b,o,none⟩→W1.heap.size≤b:=fun b o e=>by
  obtain ⟨p,c',hpc,_,_,hs'⟩:=zak ho
  cases hpc
  obtain ⟨g,hg,h2,_⟩:=hs' _ e
  cases hg
  exact h2
 have hB2:=(hb2.block _ (by omega)).trans (zaa HB1)
 have hs2:=hb2.size
 have Hx:=zac hx
 have Hb2:=zac ((zaa Hb1).trans (hb2.mono (zaa Hb1).size))
 clear ho hb2 hx Hv
 go_wp2
 go_loopw [9] (fun i wr=>∃ k:Nat,k≤vs.length∧i=.int .i64 k∧wr.heap[W.heap.size]? = some (.cells #[.int .u32 (zdl (vs.take k):Nat)] 180 (0,0))∧KeepX (fun q=>q=W.heap.size) w2 wr) (fun i _=>vs.length - (intOf i).toNat)
 case atStart=>exact ⟨0,Nat.zero_le _,rfl,hB2,KeepX.refl _ _⟩
 case round =>
  obtain ⟨k,hk,rfl,hBk,hkx⟩:=hrel
  by_cases hlt:k<vs.length
  ·have hkz:(k:Int)<(vs.length:Int):=by omega
   obtain ⟨b,o,rfl,hc⟩:=(zaa Hx) k hlt
   have hbl:b<w2.heap.size:=World.block_lt_of_cell? w2 _ hc
   have hbB:=hbase b o rfl
   have hc':wr.cell? ⟨b,o+k,none⟩=some (.int .u8 (vs[k]?.getD 0:Nat)):=(World.cell?_of_block (a:=⟨b,o+k,none⟩) (hkx.blk b hbl (by omega))).trans hc
   have hmem:vs[k]?.getD 0∈vs:=by simp [hlt]
   obtain ⟨x,hx⟩:∃ x,x=vs[k]?.getD 0:=⟨_,rfl⟩
   rw [← hx] at hc' hmem
   obtain ⟨x1,x2⟩:=(zaa Hlv) x hmem
   have hsn:zdl (vs.take (k+1))=zdl (vs.take k) ||| 2 ^ (x - 65):=by
    unfold zdl
    rw [List.take_succ_eq_append_getElem hlt,zqx,hx]
    simp [hlt]
   have hmlt:zdl (vs.take k)<4294967296:=zsd fun y hy=>((zaa Hlv) y (List.mem_of_mem_take hy)).2
   have Hadd:=zac (zy3 W.heap.size (zdl (vs.take k)) x wr hBk hmlt x1 x2)
   rw [← hsn] at Hadd
   have Hkx:=zac hkx
   clear hkx hBk hc hx hsn
   go_wp2_with (first|(go_at_call 103;refine (zaa Hadd).mono ?_;rintro e w3 ⟨rfl,hB3,hw3⟩;have hk3:KeepX (fun q=>q=W.heap.size) wr w3:=by { rw [hw3];exact za4 _ _ _ _ };clear hw3))
   have Hk3:=zac hk3
   have HB3:=zac hB3
   clear hk3 hB3
   go_roundw
   case rel=>exact ⟨k+1,by omega,by go_num,zaa HB3,(zaa Hkx).trans (zaa Hk3)⟩
   case measure=>simp [intOf];omega
  ·have hke:k=vs.length:=by omega
   subst hke
   rw [List.take_length] at hBk
   have c0:wr.cell? ⟨W.heap.size,0,none⟩=some (.int .u32 (zdl vs:Nat)):=zab hBk 0
   have HF:=zac (show Below W.heap.size W wr from (zaa Hb2).trans ⟨hkx.os,hkx.tape,hkx.output,hkx.size,fun q hq=>hkx.blk q (by omega) (by omega)⟩)
   clear hkx hBk
   go_wp2
   go_ret
   exact ⟨rfl,zaa HF⟩
end Go.Proofs.YtoifcnidhfnapaaGreatDoor
namespace Go.Proofs.YtoifcnidhfnapaaGreatDoor
open Go.RowKit Go.Maps
theorem zzt (nm:ByteArray) (W:World) {eb db nD S E:Nat} {st:St} {R:Rel} (hE:za1 W eb db nD S E st) (hn:nm.size≤maxLen) (hR:st nm=some R) :
  Calls Tryz.prog 99 #[.pointer (some ⟨eb,0,none⟩),.string nm] W fun e w'=>e=.returned (.tuple #[.int .i64 R.ar,.bool true])∧w'=W:=by
 have hrun:=hE.hit hn hR
 have c0:=hE.c0
 have Ha:=zac (zkt R.rb R.ar R.mb W (hE.rel nm R hR).1)
 clear hE
 go_enter Tryz.func99,Tryz.ntmps99
 go_wp2_with (first|(go_at_call 40;refine (zaa Ha).mono ?_;rintro e w' ⟨rfl,hw⟩;replace hw:=hw.symm;subst hw))
 go_ret2
 exact ⟨rfl,rfl⟩
theorem ztr (nm:ByteArray) (W:World) {eb db nD S E:Nat} {st:St} (hE:za1 W eb db nD S E st) (hn:nm.size≤maxLen) (hR:st nm=none) :
  Calls Tryz.prog 99 #[.pointer (some ⟨eb,0,none⟩),.string nm] W fun e w'=>e=.returned (.tuple #[.int .i64 0,.bool false])∧w'=W:=by
 have hrun:=hE.miss hn hR
 have c0:=hE.c0
 clear hE
 go_enter Tryz.func99,Tryz.ntmps99
 go_wp2
 go_ret2
 exact ⟨rfl,rfl⟩
def zn2 (st:St) (nm:ByteArray) (n:Nat):Int:=if 8<nm.size then 1 else match st nm with|none=>6|some R=>if n=R.ar then 0 else 2
theorem zrr (nm:ByteArray) (pl:Nat) (a:Option Addr) (n cap:Nat) (W:World) {eb db nD S E:Nat} {st:St} (hE:za1 W eb db nD S E st) (hn:nm.size≤1000) (hl:n≤1000) (har:∀ R,st nm=some R→R.ar≤1000) :
  Calls Tryz.prog 187 #[.agg #[.string nm,.int .i64 pl,.slice a n cap],.func (.func 99) #[.pointer (some ⟨eb,0,none⟩)] #[]] W fun e w'=>e=.returned (.int .i64 (zn2 st nm n))∧Below W.heap.size W w':=by
 obtain ⟨W1,hW1⟩:∃ W1,W1=W.alloc (.cells #[.string nm,.int .i64 pl,.slice a n cap] 268):=⟨_,rfl⟩
 have hb1:Below W.heap.size W W1:=by rw [hW1];exact (Below.refl _ _).alloc (Nat.le_refl _) _
 have g1:W1.heap[W.heap.size]? = some (.cells #[.string nm,.int .i64 pl,.slice a n cap] 268 (0,0)):=by rw [hW1];exact zae _ _ _ rfl
 have d0:W1.cell? ⟨W.heap.size,0,none⟩=some (.string nm):=zab g1 0
 have d2:W1.cell? ⟨W.heap.size,2,none⟩=some (.slice a n cap):=zab g1 2
 have hE1:=hE.below hb1
 have Hb1:=zac hb1
 have HE1:=zac hE1
 clear g1 hb1 hE hE1
 have hm:nm.size≤maxLen:=Nat.le_trans hn (by unfold maxLen;omega)
 by_cases h8:8<nm.size
 ·have h8z:(8:Int)<(nm.size:Int):=by omega
  have hans:Hid (zn2 st nm n=1):=by unfold zn2 Hid;rw [if_pos h8]
  go_enter Tryz.func187,Tryz.ntmps187
  go_wp2_with fail
  rw [← hW1]
  clear hW1
  go_wp2
  go_ret
  exact ⟨zd0 (zaa hans).symm,zaa Hb1⟩
 ·have h8z:¬ (8:Int)<(nm.size:Int):=by omega
  cases hR:st nm with
  | none =>
   have hans:Hid (zn2 st nm n=6):=by unfold zn2 Hid;rw [if_neg h8,hR]
   have Hc:=zac (ztr nm W1 (zaa HE1) hm hR)
   go_enter Tryz.func187,Tryz.ntmps187
   go_wp2_with fail
   rw [← hW1]
   clear hW1
   go_wp2_with fail
   refine (zaa Hc).mono ?_
   rintro e w' ⟨rfl,hw⟩
   replace hw:=hw.symm
   subst hw
   go_wp2
   go_ret
   exact ⟨zd0 (zaa hans).symm,zaa Hb1⟩
  | some R =>
   have Hc:=zac (zzt nm W1 (zaa HE1) hm hR)
   have hRa:=har R hR
   by_cases hq:n=R.ar
   ·have hans:Hid (zn2 st nm n=0):=by unfold zn2 Hid;rw [if_neg h8,hR];exact if_pos hq
    subst hq
    go_enter Tryz.func187,Tryz.ntmps187
    go_wp2_with fail
    rw [← hW1]
    clear hW1
    go_wp2_with fail
    refine (zaa Hc).mono ?_
    rintro e w' ⟨rfl,hw⟩
    replace hw:=hw.symm
    subst hw
    go_wp2
    go_ret
    exact ⟨zd0 (zaa hans).symm,zaa Hb1⟩
   ·have hans:Hid (zn2 st nm n=2):=by unfold zn2 Hid;rw [if_neg h8,hR];exact if_neg hq
    have hqz:((n:Int) != (R.ar:Int))=true:=by simp;omega
    have hqz':((n:Int) == (R.ar:Int))=false:=by simp;omega
    go_enter Tryz.func187,Tryz.ntmps187
    go_wp2_with fail
    rw [← hW1]
    clear hW1
    go_wp2_with fail
    refine (zaa Hc).mono ?_
    rintro e w' ⟨rfl,hw⟩
    replace hw:=hw.symm
    subst hw
    go_wp2
    go_ret
    exact ⟨zd0 (zaa hans).symm,zaa Hb1⟩
theorem zwt (W:World):Calls Tryz.prog 62 #[.nilIface] W fun e w'=>e=.returned (.tuple #[.int .i64 0,.int .i64 0])∧Below W.heap.size W w':=by
 have has:∀ v W',Calls Tryz.prog 100 #[.nilIface,v] W' fun e w'=>e=.returned (.bool false)∧w'=W':=by
  intro v W'
  go_enter Tryz.func100,Tryz.ntmps100
  go_wp2
  go_ret
  exact ⟨rfl,rfl⟩
 go_enter Tryz.func62,Tryz.ntmps62
 go_wp2_with (first|(go_at_call 100;refine (has _ _).mono ?_;rintro e w' ⟨rfl,hw⟩;replace hw:=hw.symm;subst hw))
 go_ret2
 exact ⟨rfl,(Below.refl _ _).alloc (Nat.le_refl _) _⟩
def zc8 (s:ByteArray):List Nat:=s.data.toList.map (·.toNat)
theorem ycn {s:ByteArray} {k:Nat} (h:k<s.size):(zc8 s)[k]?.getD 0=s[k].toNat:=by
 unfold zc8
 have h':k<s.data.toList.length:=by simpa using h
 rw [List.getElem?_map,List.getElem?_eq_getElem h']
 rfl
theorem zzy (s:ByteArray):(zc8 s).length=s.size:=by
 unfold zc8
 rw [List.length_map]
 rfl
theorem ybj {o:ByteArray} (h:o≠⟨#[]⟩):o.toList.isEmpty=false:=by
 rw [ByteArray.toList_eq]
 obtain ⟨⟨l⟩⟩:=o
 cases l with
 | nil=>exact absurd rfl h
 | cons a l=>rfl
theorem zsm (QB:Nat) (o:ByteArray) (vs:List Nat) (W:World) (hv:∀ x∈vs,65≤x∧x≤90) (hsz:o.size≤1000) (hnd:vs.Nodup) (ho:o=⟨#[]⟩∨(zc8 o).Perm vs)
  (hbl:∀ W',Below W.heap.size W W'→Calls Tryz.prog 104 #[.pointer (some ⟨QB,0,none⟩)] W' fun e w'=>e=.returned (.int .u32 (zdl vs:Nat))∧Below W'.heap.size W' w') :
  Calls Tryz.prog 63 #[.pointer (some ⟨QB,0,none⟩),.string o] W fun e w'=>e=.returned (.bool true)∧Below W.heap.size W w':=by
 obtain ⟨W1,hW1⟩:∃ W1,W1=W.alloc (.cells #[.int .u32 0] 180):=⟨_,rfl⟩
 have hb1:Below W.heap.size W W1:=by rw [hW1];exact (Below.refl _ _).alloc (Nat.le_refl _) _
 have hs1:W1.heap.size=W.heap.size+1:=by rw [hW1];simp
 have hB1:W1.heap[W.heap.size]? = some (.cells #[.int .u32 0] 180 (0,0)):=by rw [hW1];exact zae _ _ _ rfl
 have Hbl:=zac hbl
 have Hb1:=zac hb1
 clear hbl hb1
 have hbo:∀ x∈zc8 o,65≤x∧x≤90:=fun x hx=>by
  rcases ho with rfl|h
  ·simp [zc8] at hx
  ·exact hv x (h.mem_iff.1 hx)
 have hno:(zc8 o).Nodup:=by
  rcases ho with rfl|h
  ·simp [zc8]
  ·exact h.nodup_iff.2 hnd
 have hlen:=zzy o
 go_enter Tryz.func63,Tryz.ntmps63
 go_wp2_with fail
 rw [← hW1]
 clear hW1
 go_wp2
 go_loopw [9] (fun i wr=>∃ k:Nat,k≤o.size∧i=.int .i64 k∧wr.heap[W.heap.size]? = some (.cells #[.int .u32 (zdl ((zc8 o).take k):Nat)] 180 (0,0))∧Below W.heap.size W wr) (fun i _=>o.size - (intOf i).toNat)
 case atStart=>exact ⟨0,Nat.zero_le _,rfl,hB1,zaa Hb1⟩
 case round =>
  obtain ⟨k,hk,rfl,hBk,hbk⟩:=hrel
  by_cases hlt:k<o.size
  ·have hkz:(k:Int)<(o.size:Int):=by omega
   have hat:=ycn hlt
   obtain ⟨x,hx⟩:∃ x,x=o[k].toNat:=⟨_,rfl⟩
   have hmem:x∈zc8 o:=by rw [hx,← hat];simp [hlen,hlt]
   obtain ⟨x1,x2⟩:=hbo x hmem
   have hmlt:zdl ((zc8 o).take k)<4294967296:=zsd fun y hy=>(hbo y (List.mem_of_mem_take hy)).2
   have hsn:zdl ((zc8 o).take (k+1))=zdl ((zc8 o).take k) ||| 2 ^ (x - 65):=by
    unfold zdl
    rw [List.take_succ_eq_append_getElem (by omega),zqx]
    have:(zc8 o)[k]'(by omega)=x:=by rw [hx,← hat];simp [hlen,hlt]
    rw [this]
   have hnot:(zdl ((zc8 o).take k)).testBit (x - 65)=false:=by
    rw [zqy (fun y hy=>(hbo y (List.mem_of_mem_take hy)).1) x1,decide_eq_false_iff_not]
    intro hin
    obtain ⟨j,hj,hjx⟩:=List.mem_take_iff_getElem.1 hin
    have hxk:(zc8 o)[k]'(by omega)=x:=by rw [hx,← hat];simp [hlen,hlt]
    exact (List.pairwise_iff_getElem.1 hno j k (by omega) (by omega) (by omega)) (hjx.trans hxk.symm)
   have c0:wr.cell? ⟨W.heap.size,0,none⟩=some (.int .u32 (zdl ((zc8 o).take k):Nat)):=zab hBk 0
   have hvr:zun x=true:=by simp [zun,x1,x2]
   have Hv:∀ W',Hid (Calls Tryz.prog 101 #[.int .u8 x] W' fun e w'=>e=.returned (.bool true)∧w'=W'):=fun W'=>by have:=zr6 x W';rw [hvr] at this;exact this
   have Hh:∀ W',Hid (Calls Tryz.prog 102 #[.int .u32 (zdl ((zc8 o).take k):Nat),.int .u8 x] W' fun e w'=>e=.returned (.bool false)∧w'=W'):=fun W'=>by have:=zy5 (zdl ((zc8 o).take k)) x W' hmlt x1 x2;rw [hnot] at this;exact this
   have hix:((o[k].toNat:Nat):Int)=(x:Int):=by rw [hx]
   have Hadd:∀ W',W'.heap[W.heap.size]? = some (.cells #[.int .u32 (zdl ((zc8 o).take k):Nat)] 180 (0,0))→Hid (Calls Tryz.prog 103 #[.pointer (some ⟨W.heap.size,0,none⟩),.int .u8 x] W' fun e w'=>e=.returned (.tuple #[])∧w'.heap[W.heap.size]? = some (.cells #[.int .u32 (zdl ((zc8 o).take (k+1)):Nat)] 180 (0,0))∧w'=W'.setCell ⟨W.heap.size,0,none⟩ (.int .u32 (zdl ((zc8 o).take (k+1)):Nat))):=fun W' h=>by rw [hsn];exact zy3 W.heap.size _ x W' h hmlt x1 x2
   have HBk:=zac hBk
   have Hbk:=zac hbk
   clear hBk hbk hsn hnot hvr hat hmem hx
   go_wp2_with fail
   go_quiet ((first|(go_at_call 101;exact Calls.quiet_of_same (zaa (Hv _)))|(go_at_call 102;exact Calls.quiet_of_same (zaa (Hh _)))))
   go_wp2_with (first|(go_at_call 103;refine (zaa (Hadd (World.drewN wr _) (by exact zaa HBk))).mono ?_;rintro e w3 ⟨rfl,hB3,hw3⟩;have hb3:Below W.heap.size W w3:=by { rw [hw3];exact ((zaa Hbk).trans (zed _ _ _)).setCell (p:=⟨W.heap.size,0,none⟩) (Nat.le_refl _) _ };clear hw3))
   have HB3:=zac hB3
   have Hb3:=zac hb3
   clear hB3 hb3
   go_roundw
   case rel=>exact ⟨k+1,by omega,by go_num,zaa HB3,zaa Hb3⟩
   case measure=>simp [intOf];omega
  ·have hke:k=o.size:=by omega
   subst hke
   rw [← hlen,List.take_length] at hBk
   have c0:wr.cell? ⟨W.heap.size,0,none⟩=some (.int .u32 (zdl (zc8 o):Nat)):=zab hBk 0
   have Hbk:=zac hbk
   clear hBk hbk
   rcases ho with rfl|hp
   ·go_wp2_with fail
    go_quiet (fail)
    go_wp2
    go_ret
    exact ⟨rfl,(zaa Hbk).trans (zed _ _ _)⟩
   ·by_cases h0:o=⟨#[]⟩
    ·subst h0
     go_wp2_with fail
     go_quiet (fail)
     go_wp2
     go_ret
     exact ⟨rfl,(zaa Hbk).trans (zed _ _ _)⟩
    ·have hem:=ybj h0
     have hoz:(o.toList == ([]:List UInt8))=false:=by rw [List.beq_nil_eq,hem]
     have hme:(zdl (zc8 o):Int)=(zdl vs:Int):=by rw [yaq hp]
     have hWl:W.heap.size<wr.heap.size:=World.block_lt_of_cell? wr _ c0
     have Hc:=zac ((zaa Hbl) wr.drew ((zaa Hbk).trans (zed _ 1 _)))
     rw [hme] at c0
     go_wp2_with fail
     go_region_with (first
      | (go_at_call 104;refine (zaa Hc).mono ?_;rintro e w5 ⟨rfl,hb5⟩;have c5:w5.cell? ⟨W.heap.size,0,none⟩=some (.int .u32 (zdl vs:Nat)):=(hb5.cell (p:=⟨W.heap.size,0,none⟩) hWl).trans c0))
     all_goals
      have HF:=zac ((zaa Hbk).trans (((zed _ 1 wr).trans (hb5.mono (Nat.le_refl _))).mono (zaa Hbk).size))
      clear hb5
      go_wp2
      go_ret
      exact ⟨rfl,zaa HF⟩
end Go.Proofs.YtoifcnidhfnapaaGreatDoor
namespace Go.Proofs.YtoifcnidhfnapaaGreatDoor
open Go.RowKit Go.Maps Go.Sort Go.Shelf
theorem ztz (QB:Nat) (H:List (Nat×Nat)) (B:List zbb) (W:World) (hQ:zii W QB H B) (hO:zpt H B) (hL:yb4 B) (hh:∀ x∈H,x.1∈zbl (B.map (·.ts))) :
  Calls Tryz.prog 143 #[.pointer (some ⟨QB,0,none⟩)] W fun e w'=>e=.returned .nilIface∧Below W.heap.size W w':=by
 have Hbl:=zac (zim QB H B W hQ hO hL)
 obtain ⟨hdv,bv,hblk,hhead,_⟩:=hQ.blk
 obtain ⟨ha,hcap,rfl,hx⟩:=hhead
 have hvl:=hL.vars
 have h4:=hO.h4
 have c0:W.cell? ⟨QB,0,none⟩=some (.slice ha H.length hcap):=zab hblk 0
 have hQl:QB<W.heap.size:=(Array.getElem?_eq_some_iff.1 hblk).1
 generalize zbl (B.map (·.ts))=vs at *
 have hmlt:zdl vs<4294967296:=zsd fun y hy=>(hvl y hy).2
 have hmt:∀ x∈vs,(zdl vs).testBit (x - 65)=true:=fun x hx=>by rw [zqy (fun y hy=>(hvl y hy).1) (hvl x hx).1];exact decide_eq_true hx
 obtain ⟨m,hm⟩:∃ m,m=zdl vs:=⟨_,rfl⟩
 rw [← hm] at Hbl hmlt hmt
 have Hx:=zac hx
 have Hh:=zac hh
 have Hvl:=zac hvl
 have Hmt:=zac hmt
 clear hQ hO hL hblk hx hh hvl hmt hm
 go_enter Tryz.func143,Tryz.ntmps143
 go_wp2_with fail
 refine (zaa Hbl).mono ?_
 rintro e w1 ⟨rfl,hb1⟩
 have d0:=(hb1.cell (p:=⟨QB,0,none⟩) hQl).trans c0
 have Hb1:=zac hb1
 clear hb1 Hbl
 go_wp2
 go_loopw [13] (fun i wr=>∃ k:Nat,k≤H.length∧i=.int .i64 k∧Below W.heap.size W wr) (fun i _=>H.length - (intOf i).toNat)
 case atStart=>exact ⟨0,Nat.zero_le _,rfl,zaa Hb1⟩
 case round =>
  obtain ⟨k,hk,rfl,hbk⟩:=hrel
  by_cases hlt:k<H.length
  ·have hkz:(k:Int)<(H.length:Int):=by omega
   obtain ⟨b,o,rfl,e0,e1⟩:=(zaa Hx) k hlt
   have hbl:b<W.heap.size:=World.block_lt_of_cell? W _ e0
   have hmem:(H[k]?.getD (0,0))∈H:=by simp [hlt]
   obtain ⟨⟨x,p⟩,hxp⟩:∃ q,q=H[k]?.getD (0,0):=⟨_,rfl⟩
   rw [← hxp] at e0 e1 hmem
   replace e0:=(hbk.cell (p:=⟨b,o+k*2,none⟩) hbl).trans e0
   replace e1:=(hbk.cell (p:=⟨b,o+k*2+1,none⟩) hbl).trans e1
   dsimp only at e0 e1
   have hxv:=(zaa Hh) _ hmem
   dsimp only at hxv
   obtain ⟨x1,x2⟩:=(zaa Hvl) x hxv
   have Hhas:∀ W',Hid (Calls Tryz.prog 102 #[.int .u32 m,.int .u8 x] W' fun e w'=>e=.returned (.bool true)∧w'=W'):=fun W'=>by have:=zy5 m x W' hmlt x1 x2;rw [(zaa Hmt) x hxv] at this;exact this
   have Hbk:=zac (hbk.alloc hbk.size (.cells #[.int .u8 x,.int .i64 p] 307))
   clear hbk hxp hmem
   go_wp2_with (first|(go_at_call 102;refine (zaa (Hhas _)).mono ?_;rintro e w3 ⟨rfl,hw3⟩;replace hw3:=hw3.symm;subst hw3))
   go_roundw
   case rel=>exact ⟨k+1,by omega,by go_num,zaa Hbk⟩
   case measure=>simp [intOf];omega
  ·have Hbk:=zac hbk
   clear hbk
   go_wp2
   go_ret
   exact ⟨rfl,zaa Hbk⟩
theorem zty (QB:Nat) (H:List (Nat×Nat)) (B:List zbb) (W:World) (hQ:zii W QB H B) {eb db nD S E:Nat} {st:St} (hE:za1 W eb db nD S E st) (hF:zdq st H B) :
  Calls Tryz.prog 144 #[.pointer (some ⟨QB,0,none⟩),.func (.func 99) #[.pointer (some ⟨eb,0,none⟩)] #[]] W fun e w'=>e=.returned .nilIface∧Below W.heap.size W w':=by
 obtain ⟨hdv,bv,hblk,_,hbody⟩:=hQ.blk
 obtain ⟨ba,bcap,rfl,hx⟩:=hbody
 have h4:=hF.ok.b4
 have c1:W.cell? ⟨QB,1,none⟩=some (.slice ba B.length bcap):=zab hblk 1
 have Hx:=zac hx
 have HE:=zac hE
 have HF:=zac hF
 clear hQ hE hF hblk hx
 go_enter Tryz.func144,Tryz.ntmps144
 go_wp2
 go_loopw [13] (fun i wr=>∃ k:Nat,k≤B.length∧i=.int .i64 k∧Below W.heap.size W wr) (fun i _=>B.length - (intOf i).toNat)
 case atStart=>exact ⟨0,Nat.zero_le _,rfl,Below.refl _ _⟩
 case round =>
  obtain ⟨k,hk,rfl,hbk⟩:=hrel
  by_cases hlt:k<B.length
  ·have hkz:(k:Int)<(B.length:Int):=by omega
   obtain ⟨b,o,tv,rfl,e0,e1,e2,ht⟩:=(zaa Hx) k hlt
   have hbl:b<W.heap.size:=World.block_lt_of_cell? W _ e0
   have hmem:(B[k]?.getD zat)∈B:=by simp [hlt]
   obtain ⟨at_,hat⟩:∃ at_,at_=B[k]?.getD zat:=⟨_,rfl⟩
   rw [← hat] at e0 e1 ht hmem
   have hn8:=(zaa HF).nm _ hmem
   obtain ⟨R,hR,har⟩:=(zaa HF).rel _ hmem
   have ht3:=(zaa HF).ok.t3 _ hmem
   replace e0:=(hbk.cell (p:=⟨b,o+k*3,none⟩) hbl).trans e0
   replace e1:=(hbk.cell (p:=⟨b,o+k*3+1,none⟩) hbl).trans e1
   replace e2:=(hbk.cell (p:=⟨b,o+k*3+2,none⟩) hbl).trans e2
   obtain ⟨nm,pl,ts⟩:=at_
   dsimp only at *
   obtain ⟨ta,tcap,rfl,_⟩:=ht
   obtain ⟨wx,hwx⟩:∃ wx,wx=wr.alloc (.cells #[.string nm,.int .i64 pl,.slice ta ts.length tcap] 268):=⟨_,rfl⟩
   have hb2:Below W.heap.size W wx:=by rw [hwx];exact hbk.alloc hbk.size _
   have gx:wx.heap[wr.heap.size]? = some (.cells #[.string nm,.int .i64 pl,.slice ta ts.length tcap] 268 (0,0)):=by rw [hwx];exact zae _ _ _ rfl
   have g0:wx.cell? ⟨wr.heap.size,0,none⟩=some (.string nm):=zab gx 0
   have g1:wx.cell? ⟨wr.heap.size,1,none⟩=some (.int .i64 pl):=zab gx 1
   have g2:wx.cell? ⟨wr.heap.size,2,none⟩=some (.slice ta ts.length tcap):=zab gx 2
   clear gx
   have hz:zn2 st nm ts.length=0:=by
    unfold zn2
    rw [if_neg (by omega),hR]
    exact if_pos har
   have Hc:∀ W',Below W.heap.size W W'→Hid (Calls Tryz.prog 187 #[.agg #[.string nm,.int .i64 pl,.slice ta ts.length tcap],.func (.func 99) #[.pointer (some ⟨eb,0,none⟩)] #[]] W' fun e w'=>e=.returned (.int .i64 0)∧Below W'.heap.size W' w'):=fun W' h=>by
    have:=zrr nm pl ta ts.length tcap W' ((zaa HE).below h) (by omega) (by omega) (fun R' hR'=>by rw [hR] at hR';cases hR';omega)
    rw [hz] at this
    exact this
   have Hb2:=zac hb2
   have Hc':=Hc wx hb2
   clear hbk hb2 hat hmem hz Hc har
   go_upto_region 4 with fail
   rw [← hwx]
   clear hwx e0 e1 e2
   go_wp2_with fail
   refine (zaa Hc').mono ?_
   rintro e w3 ⟨rfl,hb3⟩
   have Hb3:=zac ((zaa Hb2).trans (hb3.mono (zaa Hb2).size))
   clear hb3
   go_wp2
   go_roundw
   case rel=>exact ⟨k+1,by omega,by go_num,zaa Hb3⟩
   case measure=>simp [intOf];omega
  ·have Hbk:=zac hbk
   clear hbk
   go_wp2
   go_ret
   exact ⟨rfl,zaa Hbk⟩
theorem ycq (QB:Nat) (H:List (Nat×Nat)) (B:List zbb) (W:World) (hQ:zii W QB H B) {eb db nD S E:Nat} {st:St} (hE:za1 W eb db nD S E st) (hF:zdq st H B) (hL:yb4 B) :
  Calls Tryz.prog 98 #[.pointer (some ⟨QB,0,none⟩),.func (.func 99) #[.pointer (some ⟨eb,0,none⟩)] #[]] W fun e w'=>e=.returned .nilIface∧Below W.heap.size W w':=by
 have Hh:=zac (ztz QB H B W hQ hF.ok hL (fun x hx=>zdm.2 (hF.head x hx)))
 have Hb:∀ W',Below W.heap.size W W'→Hid (Calls Tryz.prog 144 #[.pointer (some ⟨QB,0,none⟩),.func (.func 99) #[.pointer (some ⟨eb,0,none⟩)] #[]] W' fun e w'=>e=.returned .nilIface∧Below W'.heap.size W' w'):=fun W' h=>zty QB H B W' (hQ.below h) (hE.below h) hF
 clear hQ hE hF hL
 go_enter Tryz.func98,Tryz.ntmps98
 go_wp2_with fail
 refine (zaa Hh).mono ?_
 rintro e w1 ⟨rfl,hb1⟩
 have Hc:=zac (zaa (Hb w1 hb1))
 have Hb1:=zac hb1
 clear hb1 Hh Hb
 go_wp2_with (first
  | (go_at_call 139;refine (zuj _ _).mono ?_;rintro e w4 ⟨rfl,hw4⟩;replace hw4:=hw4.symm;subst hw4)
  | (go_at_call 144;refine (zaa Hc).mono ?_;rintro e w2 ⟨rfl,hb2⟩;have Hb2:=zac hb2;clear hb2))
 go_ret
 exact ⟨rfl,(zaa Hb1).trans ((zaa Hb2).mono (zaa Hb1).size)⟩
theorem zva (s:ByteArray) (hsz:s.size≤300) (hs:List (Nat×Nat)) (ats:List zba) (hp:zff s=.ok (hs,ats)) (W:World) {eb db nD S E:Nat} {st:St} (hE:za1 W eb db nD S E st) (hF:zdq st hs (ats.map zba.q)) (hL:yb4 (ats.map zba.q)) :
  Calls Tryz.prog 61 #[.pointer (some ⟨eb,0,none⟩),.string s] W fun e w'=>∃ QB,e=.returned (.tuple #[.pointer (some ⟨QB,0,none⟩),.nilIface])∧zii w' QB hs (ats.map zba.q)∧Below W.heap.size W w':=by
 have HE:=zac hE
 have HF:=zac hF
 have HL:=zac hL
 have Hp:=zac hp
 clear hE hF hL hp
 go_enter Tryz.func61,Tryz.ntmps61
 go_wp2_with fail
 refine (yg5 s hsz W).mono ?_
 rintro e w1 (⟨hs',xs,hv,bv,QB,h1,rfl,hq,h2,h3,h4,h5,hb1⟩|⟨q,v,h1,rfl,_⟩)
 ·rw [zaa Hp] at h1
  cases h1
  have hQ1:zii w1 QB hs ((xs.map (·.1)).map zba.q):=⟨hv,bv,h2,zw1 h3,zwk h4 h5⟩
  have Hc:=zac (ycq QB hs ((xs.map (·.1)).map zba.q) w1 hQ1 ((zaa HE).below hb1) (zaa HF) (zaa HL))
  have Hb1:=zac hb1
  have HQ1:=zac hQ1
  clear h2 h3 h4 h5 hb1 hQ1
  go_wp2_with (first|(go_at_call 98;refine (zaa Hc).mono ?_;rintro e w2 ⟨rfl,hb2⟩;have Hb2:=zac hb2;clear hb2))
  go_ret2
  exact ⟨QB,rfl,(zaa HQ1).below (zaa Hb2),(zaa Hb1).trans ((zaa Hb2).mono (zaa Hb1).size)⟩
 ·rw [zaa Hp] at h1
  cases h1
theorem zu0 (QB:Nat) (H:List (Nat×Nat)) (B:List zbb) (o:ByteArray) (W:World) (hQ:zii W QB H B) (hO:zpt H B) (hL:yb4 B) (ho:o=⟨#[]⟩∨(zaz o).Perm (zbl (B.map (·.ts)))) :
  Calls Tryz.prog 63 #[.pointer (some ⟨QB,0,none⟩),.string o] W fun e w'=>e=.returned (.bool true)∧Below W.heap.size W w':=by
 have hvl:=zlm (B.map (·.ts)) (fun ts hts=>by obtain ⟨a,ha,rfl⟩:=List.mem_map.1 hts;exact hO.t3 a ha)
 have hb4:=hO.b4
 rw [List.length_map] at hvl
 refine zsm QB o _ W hL.vars ?_ (zph _) ho fun W' h=>zim QB H B W' (hQ.below h) hO hL
 rcases ho with rfl|h
 ·decide
 ·rw [← zbx,h.length_eq];omega
end Go.Proofs.YtoifcnidhfnapaaGreatDoor
