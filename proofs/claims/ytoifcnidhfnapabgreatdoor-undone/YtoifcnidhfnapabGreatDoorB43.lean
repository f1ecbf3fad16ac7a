import Derived.Test.YtoifcnidhfnapabGreatDoorB42
import Derived.Test.YtoifcnidhfnapabGreatDoorB31
import Derived.Test.YtoifcnidhfnapabGreatDoorB38
import Derived.Test.YtoifcnidhfnapabGreatDoorB05
set_option linter.unusedVariables false
set_option linter.unusedSimpArgs false
set_option maxRecDepth 100000
set_option maxHeartbeats 16000000
namespace Go.Proofs.YtoifcnidhfnapabGreatDoor
open Go.RowKit Go.Maps Go.Sort Go.Shelf
theorem zl9 {α:Type} (n:Nat) (c:α→List Value) (hc:∀ x,(c x).length=n):∀ (xs:List α) (i j:Nat) (hi:i<xs.length),j<n→(xs.flatMap c)[i*n+j]? = (c xs[i])[j]?
 | [],i,j,hi,_=>by simp at hi
 | x :: xs,0,j,_,hj=>by
  rw [List.flatMap_cons,Nat.zero_mul,Nat.zero_add,List.getElem?_append_left (by rw [hc];exact hj)]
  rfl
 | x :: xs,i+1,j,hi,hj=>by
  have e:(i+1)*n=i*n+n:=by rw [Nat.add_mul,Nat.one_mul]
  rw [List.flatMap_cons,List.getElem?_append_right (by rw [hc,e];omega),hc]
  have:(i+1)*n+j - n=i*n+j:=by rw [e];omega
  rw [this,zl9 n c hc xs i j (by simpa using hi) hj]
  rfl
theorem zig {i n k j:Nat} (hi:i<n) (hj:j<k):i*k+j<n*k:=by
 have:(i+1)*k≤n*k:=Nat.mul_le_mul_right _ hi
 rw [Nat.add_mul,Nat.one_mul] at this
 omega
theorem zvu {w:World} {base:Nat} {v:Value} {ts:List Trm} (h:w.ownsRow base 240 2 v ts.length (zf2 ts)):zhd w v ts:=by
 obtain ⟨p,c,rfl,hle,hn,hs⟩:=zan h
 refine ⟨p,c,rfl,fun j hj=>?_⟩
 cases p with
 | none=>have:=(hn rfl).1;omega
 | some ad =>
  obtain ⟨g,rfl,_,_,hc⟩:=hs ad rfl
  refine ⟨g,0,rfl,?_,?_⟩
  ·rw [Nat.zero_add,hc _ (by have:=zig hj (show 0<2 by omega);omega)]
   have:=zl9 2 zvt (fun _=>rfl) ts j 0 hj (by omega)
   rw [Nat.add_zero] at this
   rw [show zf2 ts=ts.flatMap zvt from rfl,this]
   simp [zvt,hj]
  ·rw [Nat.zero_add,hc _ (zig hj (by omega))]
   have:=zl9 2 zvt (fun _=>rfl) ts j 1 hj (by omega)
   rw [show zf2 ts=ts.flatMap zvt from rfl,this]
   simp [zvt,hj]
theorem zwz {w:World} {base:Nat} {v:Value} {hs:List (Nat×Nat)} (h:w.ownsRow base 220 2 v hs.length (zma hs)):ztt w v hs:=by
 obtain ⟨p,c,rfl,hle,hn,hs'⟩:=zan h
 refine ⟨p,c,rfl,fun j hj=>?_⟩
 cases p with
 | none=>have:=(hn rfl).1;omega
 | some ad =>
  obtain ⟨g,rfl,_,_,hc⟩:=hs' ad rfl
  refine ⟨g,0,rfl,?_,?_⟩
  ·rw [Nat.zero_add,hc _ (by have:=zig hj (show 0<2 by omega);omega)]
   have:=zl9 2 (fun x:Nat×Nat=>[Value.int .u8 x.1,Value.int .i64 x.2]) (fun _=>rfl) hs j 0 hj (by omega)
   rw [Nat.add_zero] at this
   rw [show zma hs=hs.flatMap fun x=>[Value.int .u8 x.1,Value.int .i64 x.2] from rfl,this]
   simp [hj]
  ·rw [Nat.zero_add,hc _ (zig hj (by omega))]
   have:=zl9 2 (fun x:Nat×Nat=>[Value.int .u8 x.1,Value.int .i64 x.2]) (fun _=>rfl) hs j 1 hj (by omega)
   rw [show zma hs=hs.flatMap fun x=>[Value.int .u8 x.1,Value.int .i64 x.2] from rfl,this]
   simp [hj]
def zb3.q (a:zb3):za7:=⟨a.nm,a.pl,a.ts⟩
theorem zwk {w:World} {base:Nat} {v:Value} {xs:List (zb3×Value)} (h:w.ownsRow base 183 3 v xs.length (zku xs)) (ht:∀ x∈xs,w.ownsRow base 240 2 x.2 x.1.ts.length (zf2 x.1.ts)):ztq w v ((xs.map (·.1)).map zb3.q):=by
 obtain ⟨p,c,rfl,hle,hn,hs'⟩:=zan h
 refine ⟨p,c,by simp,fun j hj=>?_⟩
 have hj':j<xs.length:=by simpa using hj
 have he:(((xs.map (·.1)).map zb3.q)[j]?.getD zat)=(xs[j]).1.q:=by simp [hj']
 rw [he]
 cases p with
 | none=>have:=(hn rfl).1;omega
 | some ad =>
  obtain ⟨g,rfl,_,_,hc⟩:=hs' ad rfl
  have hat:∀ k,k<3→w.cell? ⟨g,0+j*3+k,none⟩=[Value.string (xs[j]).1.nm,Value.int .i64 (xs[j]).1.pl,(xs[j]).2][k]?:=fun k hk=>by
   rw [Nat.zero_add,hc _ (zig hj' hk)]
   have:=zl9 3 (fun x:zb3×Value=>[Value.string x.1.nm,Value.int .i64 x.1.pl,x.2]) (fun _=>rfl) xs j k hj' hk
   rw [show zku xs=xs.flatMap fun x=>[Value.string x.1.nm,Value.int .i64 x.1.pl,x.2] from rfl,this]
  exact ⟨g,0,(xs[j]).2,rfl,hat 0 (by omega),hat 1 (by omega),hat 2 (by omega),zvu (ht _ (List.getElem_mem hj'))⟩
def yfz (v:Nat):Prop:=v=0∨65≤v∧v≤90
instance (v:Nat):Decidable (yfz v):=by unfold yfz;exact inferInstance
def ycb (B:List za7):Prop:=∀ a∈B,∀ t∈a.ts,yfz t.1
theorem ycb.vars {B:List za7} (h:ycb B):∀ x∈zbs (B.map (·.ts)),65≤x∧x≤90:=by
 intro x hx
 obtain ⟨h0,hb⟩:=zdm.1 hx
 obtain ⟨ts,hts,t,ht,rfl⟩:=zew.1 hb
 obtain ⟨a,ha,rfl⟩:=List.mem_map.1 hts
 rcases h a ha t ht with h|h
 ·exact absurd h h0
 ·exact h
theorem zh9 (QB:Nat) (H:List (Nat×Nat)) (B:List za7) (W:World) (hQ:zh4 W QB H B) (hO:zp8 H B) (hL:ycb B) :
  Calls Tryz.prog 56 #[.pointer (some ⟨QB,0,none⟩)] W fun e w'=>e=.returned (.int .u32 (zdk (zbs (B.map (·.ts))):Nat))∧Below W.heap.size W w':=by
 have hvl:=zlu (B.map (·.ts)) (fun ts hts=>by obtain ⟨a,ha,rfl⟩:=List.mem_map.1 hts;exact hO.t3 a ha)
 have hb4:=hO.b4
 rw [List.length_map] at hvl
 have hlv:=hL.vars
 obtain ⟨W1,hW1⟩:∃ W1,W1=W.alloc (.cells #[.int .u32 0] 113):=⟨_,rfl⟩
 have hb1:Below W.heap.size W W1:=by rw [hW1];exact (Below.refl _ _).alloc (Nat.le_refl _) _
 have hs1:W1.heap.size=W.heap.size+1:=by rw [hW1];simp
 have hB1:W1.heap[W.heap.size]? = some (.cells #[.int .u32 0] 113 (0,0)):=by rw [hW1];exact zae _ _ _ rfl
 have Hv:=zac (zlt QB H B W1 (hQ.below hb1) hO)
 generalize zbs (B.map (·.ts))=vs at *
 have Hlv:=zac hlv
 have Hb1:=zac hb1
 have HB1:=zac hB1
 clear hQ hO hL hlv hb1 hB1
 go_enter Tryz.func56,Tryz.ntmps56
 go_wp2_with fail
 rw [← hW1]
 clear hW1
 refine (zaa Hv).mono ?_
 rintro e w2 ⟨v,rfl,ho,hb2⟩
 obtain ⟨a,cap,rfl,hx⟩:=zmy ho
 have hbase:∀ b o,a=some ⟨b,o,none⟩→W1.heap.size≤b:=fun b o e=>by
  obtain ⟨p,c',hpc,_,_,hs'⟩:=zan ho
  cases hpc
  obtain ⟨g,hg,h2,_⟩:=hs' _ e
  cases hg
  exact h2
 have hB2:=(hb2.block _ (by omega)).trans (zaa HB1)
 have hs2:=hb2.size
 have Hx:=zac hx
 have Hb2:=zac ((zaa Hb1).trans (hb2.mono (zaa Hb1).size))
 clear ho hb2 hx Hv
 go_wp2
 go_loopw [9] (fun i wr=>∃ k:Nat,k≤vs.length∧i=.int .i64 k∧wr.heap[W.heap.size]? = some (.cells #[.int .u32 (zdk (vs.take k):Nat)] 113 (0,0))∧KeepX (fun q=>q=W.heap.size) w2 wr) (fun i _=>vs.length - (intOf i).toNat)
 case atStart=>exact ⟨0,Nat.zero_le _,rfl,hB2,KeepX.refl _ _⟩
 case round =>
  obtain ⟨k,hk,rfl,hBk,hkx⟩:=hrel
  by_cases hlt:k<vs.length
  ·have hkz:(k:Int)<(vs.length:Int):=by omega
   obtain ⟨b,o,rfl,hc⟩:=(zaa Hx) k hlt
   have hbl:b<w2.heap.size:=World.block_lt_of_cell? w2 _ hc
   have hbB:=hbase b o rfl
   have hc':wr.cell? ⟨b,o+k,none⟩=some (.int .u8 (vs[k]?.getD 0:Nat)):=(World.cell?_of_block (a:=⟨b,o+k,none⟩) (hkx.blk b hbl (by omega))).trans hc
   have hmem:vs[k]?.getD 0∈vs:=by simp [hlt]
   obtain ⟨x,hx⟩:∃ x,x=vs[k]?.getD 0:=⟨_,rfl⟩
   rw [← hx] at hc' hmem
   obtain ⟨x1,x2⟩:=(zaa Hlv) x hmem
   have hsn:zdk (vs.take (k+1))=zdk (vs.take k) ||| 2 ^ (x - 65):=by
    unfold zdk
    rw [List.take_succ_eq_append_getElem hlt,zrc,hx]
    simp [hlt]
   have hmlt:zdk (vs.take k)<4294967296:=zsn fun y hy=>((zaa Hlv) y (List.mem_of_mem_take hy)).2
   have Hadd:=zac (zyt W.heap.size (zdk (vs.take k)) x wr hBk hmlt x1 x2)
   rw [← hsn] at Hadd
   have Hkx:=zac hkx
   clear hkx hBk hc hx hsn
   go_wp2_with (first|(go_at_call 55;refine (zaa Hadd).mono ?_;rintro e w3 ⟨rfl,hB3,hw3⟩;have hk3:KeepX (fun q=>q=W.heap.size) wr w3:=by { rw [hw3];exact za4 _ _ _ _ };clear hw3))
   have Hk3:=zac hk3
   have HB3:=zac hB3
   clear hk3 hB3
   go_roundw
   case rel=>exact ⟨k+1,by omega,by go_num,zaa HB3,(zaa Hkx).trans (zaa Hk3)⟩
   case measure=>simp [intOf];omega
  ·have hke:k=vs.length:=by omega
   subst hke
   rw [List.take_length] at hBk
   have c0:wr.cell? ⟨W.heap.size,0,none⟩=some (.int .u32 (zdk vs:Nat)):=zab hBk 0
   have HF:=zac (show Below W.heap.size W wr from (zaa Hb2).trans ⟨hkx.os,hkx.tape,hkx.output,hkx.size,fun q hq=>hkx.blk q (by omega) (by omega)⟩)
   clear hkx hBk
   go_wp2
   go_ret
   exact ⟨rfl,zaa HF⟩
end Go.Proofs.YtoifcnidhfnapabGreatDoor
namespace Go.Proofs.YtoifcnidhfnapabGreatDoor
open Go.RowKit Go.Maps
theorem zzm (nm:ByteArray) (W:World) {eb db nD S E:Nat} {st:St} {R:Rel} (hE:za1 W eb db nD S E st) (hn:nm.size≤maxLen) (hR:st nm=some R) :
  Calls Tryz.prog 51 #[.pointer (some ⟨eb,0,none⟩),.string nm] W fun e w'=>e=.returned (.tuple #[.int .i64 R.ar,.bool true])∧w'=W:=by
 have hrun:=hE.hit hn hR
 have c0:=hE.c0
 have Ha:=zac (zod R.rb R.ar R.mb W (hE.rel nm R hR).1)
 clear hE
 go_enter Tryz.func51,Tryz.ntmps51
 go_wp2_with (first|(go_at_call 66;refine (zaa Ha).mono ?_;rintro e w' ⟨rfl,hw⟩;replace hw:=hw.symm;subst hw))
 go_ret2
 exact ⟨rfl,rfl⟩
theorem zt1 (nm:ByteArray) (W:World) {eb db nD S E:Nat} {st:St} (hE:za1 W eb db nD S E st) (hn:nm.size≤maxLen) (hR:st nm=none) :
  Calls Tryz.prog 51 #[.pointer (some ⟨eb,0,none⟩),.string nm] W fun e w'=>e=.returned (.tuple #[.int .i64 0,.bool false])∧w'=W:=by
 have hrun:=hE.miss hn hR
 have c0:=hE.c0
 clear hE
 go_enter Tryz.func51,Tryz.ntmps51
 go_wp2
 go_ret2
 exact ⟨rfl,rfl⟩
def zoe (st:St) (nm:ByteArray) (n:Nat):Int:=if 8<nm.size then 1 else match st nm with|none=>6|some R=>if n=R.ar then 0 else 2
theorem zr0 (nm:ByteArray) (pl:Nat) (a:Option Addr) (n cap:Nat) (W:World) {eb db nD S E:Nat} {st:St} (hE:za1 W eb db nD S E st) (hn:nm.size≤1000) (hl:n≤1000) (har:∀ R,st nm=some R→R.ar≤1000) :
  Calls Tryz.prog 116 #[.agg #[.string nm,.int .i64 pl,.slice a n cap],.func (.func 51) #[.pointer (some ⟨eb,0,none⟩)] #[]] W fun e w'=>e=.returned (.int .i64 (zoe st nm n))∧Below W.heap.size W w':=by
 obtain ⟨W1,hW1⟩:∃ W1,W1=W.alloc (.cells #[.string nm,.int .i64 pl,.slice a n cap] 183):=⟨_,rfl⟩
 have hb1:Below W.heap.size W W1:=by rw [hW1];exact (Below.refl _ _).alloc (Nat.le_refl _) _
 have g1:W1.heap[W.heap.size]? = some (.cells #[.string nm,.int .i64 pl,.slice a n cap] 183 (0,0)):=by rw [hW1];exact zae _ _ _ rfl
 have d0:W1.cell? ⟨W.heap.size,0,none⟩=some (.string nm):=zab g1 0
 have d2:W1.cell? ⟨W.heap.size,2,none⟩=some (.slice a n cap):=zab g1 2
 have hE1:=hE.below hb1
 have Hb1:=zac hb1
 have HE1:=zac hE1
 clear g1 hb1 hE hE1
 have hm:nm.size≤maxLen:=Nat.le_trans hn (by unfold maxLen;omega)
 by_cases h8:8<nm.size
 ·have h8z:(8:Int)<(nm.size:Int):=by omega
  have hans:Hid (zoe st nm n=1):=by unfold zoe Hid;rw [if_pos h8]
  go_enter Tryz.func116,Tryz.ntmps116
  go_wp2_with fail
  rw [← hW1]
  clear hW1
  go_wp2
  go_ret
  exact ⟨zd1 (zaa hans).symm,zaa Hb1⟩
 ·have h8z:¬ (8:Int)<(nm.size:Int):=by omega
  cases hR:st nm with
  | none =>
   have hans:Hid (zoe st nm n=6):=by unfold zoe Hid;rw [if_neg h8,hR]
   have Hc:=zac (zt1 nm W1 (zaa HE1) hm hR)
   go_enter Tryz.func116,Tryz.ntmps116
   go_wp2_with fail
   rw [← hW1]
   clear hW1
   go_wp2_with fail
   refine (zaa Hc).mono ?_
   rintro e w' ⟨rfl,hw⟩
   replace hw:=hw.symm
   subst hw
   go_wp2
   go_ret
   exact ⟨zd1 (zaa hans).symm,zaa Hb1⟩
  | some R =>
   have Hc:=zac (zzm nm W1 (zaa HE1) hm hR)
   have hRa:=har R hR
   by_cases hq:n=R.ar
   ·have hans:Hid (zoe st nm n=0):=by unfold zoe Hid;rw [if_neg h8,hR];exact if_pos hq
    subst hq
    go_enter Tryz.func116,Tryz.ntmps116
    go_wp2_with fail
    rw [← hW1]
    clear hW1
    go_wp2_with fail
    refine (zaa Hc).mono ?_
    rintro e w' ⟨rfl,hw⟩
    replace hw:=hw.symm
    subst hw
    go_wp2
    go_ret
    exact ⟨zd1 (zaa hans).symm,zaa Hb1⟩
   ·have hans:Hid (zoe st nm n=2):=by unfold zoe Hid;rw [if_neg h8,hR];exact if_neg hq
    have hqz:((n:Int) != (R.ar:Int))=true:=by simp;omega
    have hqz':((n:Int) == (R.ar:Int))=false:=by simp;omega
    go_enter Tryz.func116,Tryz.ntmps116
    go_wp2_with fail
    rw [← hW1]
    clear hW1
    go_wp2_with fail
    refine (zaa Hc).mono ?_
    rintro e w' ⟨rfl,hw⟩
    replace hw:=hw.symm
    subst hw
    go_wp2
    go_ret
    exact ⟨zd1 (zaa hans).symm,zaa Hb1⟩
theorem zws (W:World):Calls Tryz.prog 37 #[.nilIface] W fun e w'=>e=.returned (.tuple #[.int .i64 0,.int .i64 0])∧Below W.heap.size W w':=by
 have has:∀ v W',Calls Tryz.prog 52 #[.nilIface,v] W' fun e w'=>e=.returned (.bool false)∧w'=W':=by
  intro v W'
  go_enter Tryz.func52,Tryz.ntmps52
  go_wp2
  go_ret
  exact ⟨rfl,rfl⟩
 go_enter Tryz.func37,Tryz.ntmps37
 go_wp2_with (first|(go_at_call 52;refine (has _ _).mono ?_;rintro e w' ⟨rfl,hw⟩;replace hw:=hw.symm;subst hw))
 go_ret2
 exact ⟨rfl,(Below.refl _ _).alloc (Nat.le_refl _) _⟩
def zc3 (s:ByteArray):List Nat:=s.data.toList.map (·.toNat)
theorem ycu {s:ByteArray} {k:Nat} (h:k<s.size):(zc3 s)[k]?.getD 0=s[k].toNat:=by
 unfold zc3
 have h':k<s.data.toList.length:=by simpa using h
 rw [List.getElem?_map,List.getElem?_eq_getElem h']
 rfl
theorem zzs (s:ByteArray):(zc3 s).length=s.size:=by
 unfold zc3
 rw [List.length_map]
 rfl
theorem ybk {o:ByteArray} (h:o≠⟨#[]⟩):o.toList.isEmpty=false:=by
 rw [ByteArray.toList_eq]
 obtain ⟨⟨l⟩⟩:=o
 cases l with
 | nil=>exact absurd rfl h
 | cons a l=>rfl
theorem zsw (QB:Nat) (o:ByteArray) (vs:List Nat) (W:World) (hv:∀ x∈vs,65≤x∧x≤90) (hsz:o.size≤1000) (hnd:vs.Nodup) (ho:o=⟨#[]⟩∨(zc3 o).Perm vs)
  (hbl:∀ W',Below W.heap.size W W'→Calls Tryz.prog 56 #[.pointer (some ⟨QB,0,none⟩)] W' fun e w'=>e=.returned (.int .u32 (zdk vs:Nat))∧Below W'.heap.size W' w') :
  Calls Tryz.prog 38 #[.pointer (some ⟨QB,0,none⟩),.string o] W fun e w'=>e=.returned (.bool true)∧Below W.heap.size W w':=by
 obtain ⟨W1,hW1⟩:∃ W1,W1=W.alloc (.cells #[.int .u32 0] 113):=⟨_,rfl⟩
 have hb1:Below W.heap.size W W1:=by rw [hW1];exact (Below.refl _ _).alloc (Nat.le_refl _) _
 have hs1:W1.heap.size=W.heap.size+1:=by rw [hW1];simp
 have hB1:W1.heap[W.heap.size]? = some (.cells #[.int .u32 0] 113 (0,0)):=by rw [hW1];exact zae _ _ _ rfl
 have Hbl:=zac hbl
 have Hb1:=zac hb1
 clear hbl hb1
 have hbo:∀ x∈zc3 o,65≤x∧x≤90:=fun x hx=>by
  rcases ho with rfl|h
  ·simp [zc3] at hx
  ·exact hv x (h.mem_iff.1 hx)
 have hno:(zc3 o).Nodup:=by
  rcases ho with rfl|h
  ·simp [zc3]
  ·exact h.nodup_iff.2 hnd
 have hlen:=zzs o
 go_enter Tryz.func38,Tryz.ntmps38
 go_wp2_with fail
 rw [← hW1]
 clear hW1
 go_wp2
 go_loopw [9] (fun i wr=>∃ k:Nat,k≤o.size∧i=.int .i64 k∧wr.heap[W.heap.size]? = some (.cells #[.int .u32 (zdk ((zc3 o).take k):Nat)] 113 (0,0))∧Below W.heap.size W wr) (fun i _=>o.size - (intOf i).toNat)
 case atStart=>exact ⟨0,Nat.zero_le _,rfl,hB1,zaa Hb1⟩
 case round =>
  obtain ⟨k,hk,rfl,hBk,hbk⟩:=hrel
  by_cases hlt:k<o.size
  ·have hkz:(k:Int)<(o.size:Int):=by omega
   have hat:=ycu hlt
   obtain ⟨x,hx⟩:∃ x,x=o[k].toNat:=⟨_,rfl⟩
   have hmem:x∈zc3 o:=by rw [hx,← hat];simp [hlen,hlt]
   obtain ⟨x1,x2⟩:=hbo x hmem
   have hmlt:zdk ((zc3 o).take k)<4294967296:=zsn fun y hy=>(hbo y (List.mem_of_mem_take hy)).2
   have hsn:zdk ((zc3 o).take (k+1))=zdk ((zc3 o).take k) ||| 2 ^ (x - 65):=by
    unfold zdk
    rw [List.take_succ_eq_append_getElem (by omega),zrc]
    have:(zc3 o)[k]'(by omega)=x:=by rw [hx,← hat];simp [hlen,hlt]
    rw [this]
   have hnot:(zdk ((zc3 o).take k)).testBit (x - 65)=false:=by
    rw [zrd (fun y hy=>(hbo y (List.mem_of_mem_take hy)).1) x1,decide_eq_false_iff_not]
    intro hin
    obtain ⟨j,hj,hjx⟩:=List.mem_take_iff_getElem.1 hin
    have hxk:(zc3 o)[k]'(by omega)=x:=by rw [hx,← hat];simp [hlen,hlt]
    exact (List.pairwise_iff_getElem.1 hno j k (by omega) (by omega) (by omega)) (hjx.trans hxk.symm)
   have c0:wr.cell? ⟨W.heap.size,0,none⟩=some (.int .u32 (zdk ((zc3 o).take k):Nat)):=zab hBk 0
   have hvr:zut x=true:=by simp [zut,x1,x2]
   have Hv:∀ W',Hid (Calls Tryz.prog 53 #[.int .u8 x] W' fun e w'=>e=.returned (.bool true)∧w'=W'):=fun W'=>by have:=zsf x W';rw [hvr] at this;exact this
   have Hh:∀ W',Hid (Calls Tryz.prog 54 #[.int .u32 (zdk ((zc3 o).take k):Nat),.int .u8 x] W' fun e w'=>e=.returned (.bool false)∧w'=W'):=fun W'=>by have:=zyu (zdk ((zc3 o).take k)) x W' hmlt x1 x2;rw [hnot] at this;exact this
   have hix:((o[k].toNat:Nat):Int)=(x:Int):=by rw [hx]
   have Hadd:∀ W',W'.heap[W.heap.size]? = some (.cells #[.int .u32 (zdk ((zc3 o).take k):Nat)] 113 (0,0))→Hid (Calls Tryz.prog 55 #[.pointer (some ⟨W.heap.size,0,none⟩),.int .u8 x] W' fun e w'=>e=.returned (.tuple #[])∧w'.heap[W.heap.size]? = some (.cells #[.int .u32 (zdk ((zc3 o).take (k+1)):Nat)] 113 (0,0))∧w'=W'.setCell ⟨W.heap.size,0,none⟩ (.int .u32 (zdk ((zc3 o).take (k+1)):Nat))):=fun W' h=>by rw [hsn];exact zyt W.heap.size _ x W' h hmlt x1 x2
   have HBk:=zac hBk
   have Hbk:=zac hbk
   clear hBk hbk hsn hnot hvr hat hmem hx
   go_wp2_with fail
   go_quiet ((first|(go_at_call 53;exact Calls.quiet_of_same (zaa (Hv _)))|(go_at_call 54;exact Calls.quiet_of_same (zaa (Hh _)))))
   go_wp2_with (first|(go_at_call 55;refine (zaa (Hadd (World.drewN wr _) (by exact zaa HBk))).mono ?_;rintro e w3 ⟨rfl,hB3,hw3⟩;have hb3:Below W.heap.size W w3:=by { rw [hw3];exact ((zaa Hbk).trans (zeb _ _ _)).setCell (p:=⟨W.heap.size,0,none⟩) (Nat.le_refl _) _ };clear hw3))
   have HB3:=zac hB3
   have Hb3:=zac hb3
   clear hB3 hb3
   go_roundw
   case rel=>exact ⟨k+1,by omega,by go_num,zaa HB3,zaa Hb3⟩
   case measure=>simp [intOf];omega
  ·have hke:k=o.size:=by omega
   subst hke
   rw [← hlen,List.take_length] at hBk
   have c0:wr.cell? ⟨W.heap.size,0,none⟩=some (.int .u32 (zdk (zc3 o):Nat)):=zab hBk 0
   have Hbk:=zac hbk
   clear hBk hbk
   rcases ho with rfl|hp
   ·go_wp2_with fail
    go_quiet (fail)
    go_wp2
    go_ret
    exact ⟨rfl,(zaa Hbk).trans (zeb _ _ _)⟩
   ·by_cases h0:o=⟨#[]⟩
    ·subst h0
     go_wp2_with fail
     go_quiet (fail)
     go_wp2
     go_ret
     exact ⟨rfl,(zaa Hbk).trans (zeb _ _ _)⟩
    ·have hem:=ybk h0
     have hoz:(o.toList == ([]:List UInt8))=false:=by rw [List.beq_nil_eq,hem]
     have hme:(zdk (zc3 o):Int)=(zdk vs:Int):=by rw [yal hp]
     have hWl:W.heap.size<wr.heap.size:=World.block_lt_of_cell? wr _ c0
     have Hc:=zac ((zaa Hbl) wr.drew ((zaa Hbk).trans (zeb _ 1 _)))
     rw [hme] at c0
     go_wp2_with fail
     go_region_with (first
      | (go_at_call 56;refine (zaa Hc).mono ?_;rintro e w5 ⟨rfl,hb5⟩;have c5:w5.cell? ⟨W.heap.size,0,none⟩=some (.int .u32 (zdk vs:Nat)):=(hb5.cell (p:=⟨W.heap.size,0,none⟩) hWl).trans c0))
     all_goals
      have HF:=zac ((zaa Hbk).trans (((zeb _ 1 wr).trans (hb5.mono (Nat.le_refl _))).mono (zaa Hbk).size))
      clear hb5
      go_wp2
      go_ret
      exact ⟨rfl,zaa HF⟩
end Go.Proofs.YtoifcnidhfnapabGreatDoor
namespace Go.Proofs.YtoifcnidhfnapabGreatDoor
open Go.RowKit Go.Maps Go.Sort Go.Shelf
theorem zt8 (QB:Nat) (H:List (Nat×Nat)) (B:List za7) (W:World) (hQ:zh4 W QB H B) (hO:zp8 H B) (hL:ycb B) (hh:∀ x∈H,x.1∈zbs (B.map (·.ts))) :
  Calls Tryz.prog 79 #[.pointer (some ⟨QB,0,none⟩)] W fun e w'=>e=.returned .nilIface∧Below W.heap.size W w':=by
 have Hbl:=zac (zh9 QB H B W hQ hO hL)
 obtain ⟨hdv,bv,hblk,hhead,_⟩:=hQ.blk
 obtain ⟨ha,hcap,rfl,hx⟩:=hhead
 have hvl:=hL.vars
 have h4:=hO.h4
 have c0:W.cell? ⟨QB,0,none⟩=some (.slice ha H.length hcap):=zab hblk 0
 have hQl:QB<W.heap.size:=(Array.getElem?_eq_some_iff.1 hblk).1
 generalize zbs (B.map (·.ts))=vs at *
 have hmlt:zdk vs<4294967296:=zsn fun y hy=>(hvl y hy).2
 have hmt:∀ x∈vs,(zdk vs).testBit (x - 65)=true:=fun x hx=>by rw [zrd (fun y hy=>(hvl y hy).1) (hvl x hx).1];exact decide_eq_true hx
 obtain ⟨m,hm⟩:∃ m,m=zdk vs:=⟨_,rfl⟩
 rw [← hm] at Hbl hmlt hmt
 have Hx:=zac hx
 have Hh:=zac hh
 have Hvl:=zac hvl
 have Hmt:=zac hmt
 clear hQ hO hL hblk hx hh hvl hmt hm
 go_enter Tryz.func79,Tryz.ntmps79
 go_wp2_with fail
 refine (zaa Hbl).mono ?_
 rintro e w1 ⟨rfl,hb1⟩
 have d0:=(hb1.cell (p:=⟨QB,0,none⟩) hQl).trans c0
 have Hb1:=zac hb1
 clear hb1 Hbl
 go_wp2
 go_loopw [13] (fun i wr=>∃ k:Nat,k≤H.length∧i=.int .i64 k∧Below W.heap.size W wr) (fun i _=>H.length - (intOf i).toNat)
 case atStart=>exact ⟨0,Nat.zero_le _,rfl,zaa Hb1⟩
 case round =>
  obtain ⟨k,hk,rfl,hbk⟩:=hrel
  by_cases hlt:k<H.length
  ·have hkz:(k:Int)<(H.length:Int):=by omega
   obtain ⟨b,o,rfl,e0,e1⟩:=(zaa Hx) k hlt
   have hbl:b<W.heap.size:=World.block_lt_of_cell? W _ e0
   have hmem:(H[k]?.getD (0,0))∈H:=by simp [hlt]
   obtain ⟨⟨x,p⟩,hxp⟩:∃ q,q=H[k]?.getD (0,0):=⟨_,rfl⟩
   rw [← hxp] at e0 e1 hmem
   replace e0:=(hbk.cell (p:=⟨b,o+k*2,none⟩) hbl).trans e0
   replace e1:=(hbk.cell (p:=⟨b,o+k*2+1,none⟩) hbl).trans e1
   dsimp only at e0 e1
   have hxv:=(zaa Hh) _ hmem
   dsimp only at hxv
   obtain ⟨x1,x2⟩:=(zaa Hvl) x hxv
   have Hhas:∀ W',Hid (Calls Tryz.prog 54 #[.int .u32 m,.int .u8 x] W' fun e w'=>e=.returned (.bool true)∧w'=W'):=fun W'=>by have:=zyu m x W' hmlt x1 x2;rw [(zaa Hmt) x hxv] at this;exact this
   have Hbk:=zac (hbk.alloc hbk.size (.cells #[.int .u8 x,.int .i64 p] 220))
   clear hbk hxp hmem
   go_wp2_with (first|(go_at_call 54;refine (zaa (Hhas _)).mono ?_;rintro e w3 ⟨rfl,hw3⟩;replace hw3:=hw3.symm;subst hw3))
   go_roundw
   case rel=>exact ⟨k+1,by omega,by go_num,zaa Hbk⟩
   case measure=>simp [intOf];omega
  ·have Hbk:=zac hbk
   clear hbk
   go_wp2
   go_ret
   exact ⟨rfl,zaa Hbk⟩
theorem zt7 (QB:Nat) (H:List (Nat×Nat)) (B:List za7) (W:World) (hQ:zh4 W QB H B) {eb db nD S E:Nat} {st:St} (hE:za1 W eb db nD S E st) (hF:zds st H B) :
  Calls Tryz.prog 80 #[.pointer (some ⟨QB,0,none⟩),.func (.func 51) #[.pointer (some ⟨eb,0,none⟩)] #[]] W fun e w'=>e=.returned .nilIface∧Below W.heap.size W w':=by
 obtain ⟨hdv,bv,hblk,_,hbody⟩:=hQ.blk
 obtain ⟨ba,bcap,rfl,hx⟩:=hbody
 have h4:=hF.ok.b4
 have c1:W.cell? ⟨QB,1,none⟩=some (.slice ba B.length bcap):=zab hblk 1
 have Hx:=zac hx
 have HE:=zac hE
 have HF:=zac hF
 clear hQ hE hF hblk hx
 go_enter Tryz.func80,Tryz.ntmps80
 go_wp2
 go_loopw [13] (fun i wr=>∃ k:Nat,k≤B.length∧i=.int .i64 k∧Below W.heap.size W wr) (fun i _=>B.length - (intOf i).toNat)
 case atStart=>exact ⟨0,Nat.zero_le _,rfl,Below.refl _ _⟩
 case round =>
  obtain ⟨k,hk,rfl,hbk⟩:=hrel
  by_cases hlt:k<B.length
  ·have hkz:(k:Int)<(B.length:Int):=by omega
   obtain ⟨b,o,tv,rfl,e0,e1,e2,ht⟩:=(zaa Hx) k hlt
   have hbl:b<W.heap.size:=World.block_lt_of_cell? W _ e0
   have hmem:(B[k]?.getD zat)∈B:=by simp [hlt]
   obtain ⟨at_,hat⟩:∃ at_,at_=B[k]?.getD zat:=⟨_,rfl⟩
   rw [← hat] at e0 e1 ht hmem
   have hn8:=(zaa HF).nm _ hmem
   obtain ⟨R,hR,har⟩:=(zaa HF).rel _ hmem
   have ht3:=(zaa HF).ok.t3 _ hmem
   replace e0:=(hbk.cell (p:=⟨b,o+k*3,none⟩) hbl).trans e0
   replace e1:=(hbk.cell (p:=⟨b,o+k*3+1,none⟩) hbl).trans e1
   replace e2:=(hbk.cell (p:=⟨b,o+k*3+2,none⟩) hbl).trans e2
   obtain ⟨nm,pl,ts⟩:=at_
   dsimp only at *
   obtain ⟨ta,tcap,rfl,_⟩:=ht
   obtain ⟨wx,hwx⟩:∃ wx,wx=wr.alloc (.cells #[.string nm,.int .i64 pl,.slice ta ts.length tcap] 183):=⟨_,rfl⟩
   have hb2:Below W.heap.size W wx:=by rw [hwx];exact hbk.alloc hbk.size _
   have gx:wx.heap[wr.heap.size]? = some (.cells #[.string nm,.int .i64 pl,.slice ta ts.length tcap] 183 (0,0)):=by rw [hwx];exact zae _ _ _ rfl
   have g0:wx.cell? ⟨wr.heap.size,0,none⟩=some (.string nm):=zab gx 0
   have g1:wx.cell? ⟨wr.heap.size,1,none⟩=some (.int .i64 pl):=zab gx 1
   have g2:wx.cell? ⟨wr.heap.size,2,none⟩=some (.slice ta ts.length tcap):=zab gx 2
   clear gx
   have hz:zoe st nm ts.length=0:=by
    unfold zoe
    rw [if_neg (by omega),hR]
    exact if_pos har
   have Hc:∀ W',Below W.heap.size W W'→Hid (Calls Tryz.prog 116 #[.agg #[.string nm,.int .i64 pl,.slice ta ts.length tcap],.func (.func 51) #[.pointer (some ⟨eb,0,none⟩)] #[]] W' fun e w'=>e=.returned (.int .i64 0)∧Below W'.heap.size W' w'):=fun W' h=>by
    have:=zr0 nm pl ta ts.length tcap W' ((zaa HE).below h) (by omega) (by omega) (fun R' hR'=>by rw [hR] at hR';cases hR';omega)
    rw [hz] at this
    exact this
   have Hb2:=zac hb2
   have Hc':=Hc wx hb2
   clear hbk hb2 hat hmem hz Hc har
   go_upto_region 4 with fail
   rw [← hwx]
   clear hwx e0 e1 e2
   go_wp2_with fail
   refine (zaa Hc').mono ?_
   rintro e w3 ⟨rfl,hb3⟩
   have Hb3:=zac ((zaa Hb2).trans (hb3.mono (zaa Hb2).size))
   clear hb3
   go_wp2
   go_roundw
   case rel=>exact ⟨k+1,by omega,by go_num,zaa Hb3⟩
   case measure=>simp [intOf];omega
  ·have Hbk:=zac hbk
   clear hbk
   go_wp2
   go_ret
   exact ⟨rfl,zaa Hbk⟩
theorem ycw (QB:Nat) (H:List (Nat×Nat)) (B:List za7) (W:World) (hQ:zh4 W QB H B) {eb db nD S E:Nat} {st:St} (hE:za1 W eb db nD S E st) (hF:zds st H B) (hL:ycb B) :
  Calls Tryz.prog 50 #[.pointer (some ⟨QB,0,none⟩),.func (.func 51) #[.pointer (some ⟨eb,0,none⟩)] #[]] W fun e w'=>e=.returned .nilIface∧Below W.heap.size W w':=by
 have Hh:=zac (zt8 QB H B W hQ hF.ok hL (fun x hx=>zdm.2 (hF.head x hx)))
 have Hb:∀ W',Below W.heap.size W W'→Hid (Calls Tryz.prog 80 #[.pointer (some ⟨QB,0,none⟩),.func (.func 51) #[.pointer (some ⟨eb,0,none⟩)] #[]] W' fun e w'=>e=.returned .nilIface∧Below W'.heap.size W' w'):=fun W' h=>zt7 QB H B W' (hQ.below h) (hE.below h) hF
 clear hQ hE hF hL
 go_enter Tryz.func50,Tryz.ntmps50
 go_wp2_with fail
 refine (zaa Hh).mono ?_
 rintro e w1 ⟨rfl,hb1⟩
 have Hc:=zac (zaa (Hb w1 hb1))
 have Hb1:=zac hb1
 clear hb1 Hh Hb
 go_wp2_with (first
  | (go_at_call 75;refine (zur _ _).mono ?_;rintro e w4 ⟨rfl,hw4⟩;replace hw4:=hw4.symm;subst hw4)
  | (go_at_call 80;refine (zaa Hc).mono ?_;rintro e w2 ⟨rfl,hb2⟩;have Hb2:=zac hb2;clear hb2))
 go_ret
 exact ⟨rfl,(zaa Hb1).trans ((zaa Hb2).mono (zaa Hb1).size)⟩
theorem zve (s:ByteArray) (hsz:s.size≤300) (hs:List (Nat×Nat)) (ats:List zb3) (hp:zfc s=.ok (hs,ats)) (W:World) {eb db nD S E:Nat} {st:St} (hE:za1 W eb db nD S E st) (hF:zds st hs (ats.map zb3.q)) (hL:ycb (ats.map zb3.q)) :
  Calls Tryz.prog 36 #[.pointer (some ⟨eb,0,none⟩),.string s] W fun e w'=>∃ QB,e=.returned (.tuple #[.pointer (some ⟨QB,0,none⟩),.nilIface])∧zh4 w' QB hs (ats.map zb3.q)∧Below W.heap.size W w':=by
 have HE:=zac hE
 have HF:=zac hF
 have HL:=zac hL
 have Hp:=zac hp
 clear hE hF hL hp
 go_enter Tryz.func36,Tryz.ntmps36
 go_wp2_with fail
 refine (yho s hsz W).mono ?_
 rintro e w1 (⟨hs',xs,hv,bv,QB,h1,rfl,hq,h2,h3,h4,h5,hb1⟩|⟨q,v,h1,rfl,_⟩)
 ·rw [zaa Hp] at h1
  cases h1
  have hQ1:zh4 w1 QB hs ((xs.map (·.1)).map zb3.q):=⟨hv,bv,h2,zwz h3,zwk h4 h5⟩
  have Hc:=zac (ycw QB hs ((xs.map (·.1)).map zb3.q) w1 hQ1 ((zaa HE).below hb1) (zaa HF) (zaa HL))
  have Hb1:=zac hb1
  have HQ1:=zac hQ1
  clear h2 h3 h4 h5 hb1 hQ1
  go_wp2_with (first|(go_at_call 50;refine (zaa Hc).mono ?_;rintro e w2 ⟨rfl,hb2⟩;have Hb2:=zac hb2;clear hb2))
  go_ret2
  exact ⟨QB,rfl,(zaa HQ1).below (zaa Hb2),(zaa Hb1).trans ((zaa Hb2).mono (zaa Hb1).size)⟩
 ·rw [zaa Hp] at h1
  cases h1
theorem zu4 (QB:Nat) (H:List (Nat×Nat)) (B:List za7) (o:ByteArray) (W:World) (hQ:zh4 W QB H B) (hO:zp8 H B) (hL:ycb B) (ho:o=⟨#[]⟩∨(zby o).Perm (zbs (B.map (·.ts)))) :
  Calls Tryz.prog 38 #[.pointer (some ⟨QB,0,none⟩),.string o] W fun e w'=>e=.returned (.bool true)∧Below W.heap.size W w':=by
 have hvl:=zlu (B.map (·.ts)) (fun ts hts=>by obtain ⟨a,ha,rfl⟩:=List.mem_map.1 hts;exact hO.t3 a ha)
 have hb4:=hO.b4
 rw [List.length_map] at hvl
 refine zsw QB o _ W hL.vars ?_ (zpu _) ho fun W' h=>zh9 QB H B W' (hQ.below h) hO hL
 rcases ho with rfl|h
 ·decide
 ·rw [← zes,h.length_eq];omega
end Go.Proofs.YtoifcnidhfnapabGreatDoor
