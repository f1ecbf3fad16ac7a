import Derived.Test.YtoifcnidhfnapaaGreatDoorB09
import Derived.Test.YtoifcnidhfnapaaGreatDoorB10
set_option linter.unusedVariables false
set_option linter.unusedSimpArgs false
set_option maxRecDepth 100000
set_option maxHeartbeats 16000000
namespace Go.Proofs.YtoifcnidhfnapaaGreatDoor
open Go.RowKit Go.Maps Go.Sort Go.Shelf
theorem Tryz.info141:(Tryz.prog.info? 141).map (fun i=>(i.zero,i.size,i.bytes))=some (some (.slice none 0 0),1,24):=by kernel_rfl
theorem yd5 {w:World} {base B n:Nat} {sv:Value} {xs:List Value} {cs:Array Value} (h:w.ownsRow base 141 1 sv n xs) (hB:w.heap[B]? = some (.cells cs 190 (0,0))):sv.ownBlock≠some B:=by
 rcases h.2 with ⟨h,_⟩|⟨g,cap,cur,h,_,hgh,_⟩
 ·rw [h];simp [Value.ownBlock]
 ·rw [h]
  simp only [Value.ownBlock]
  intro e
  injection e with e
  rw [e,hB] at hgh
  simp at hgh
theorem zhz {w:World} {base n g:Nat} {sv:Value} {xs:List Value} (h:w.ownsRow base 141 1 sv n xs) (hg:sv.ownBlock=some g):base≤g:=by
 rcases h.2 with ⟨h,_⟩|⟨g',cap,cur,h,hb,_⟩
 ·rw [h] at hg;simp [Value.ownBlock] at hg
 ·rw [h] at hg
  simp only [Value.ownBlock] at hg
  injection hg with e
  omega
theorem zen {w:World} {base n:Nat} {sv:Value} {xs:List Value} (h:w.ownsRow base 141 1 sv n xs):∃ a cap,sv=.slice a n cap:=by
 rcases h.2 with ⟨h,h0⟩|⟨g',cap,cur,h,_⟩
 ·rw [h,h0];exact ⟨none,0,rfl⟩
 ·exact ⟨_,cap,h⟩
theorem zs2 {w:World} {B:Nat} {x y v:Value} {t:TypeId} (h:w.heap[B]? = some (.cells #[x,y] t (0,0))):(w.setCell ⟨B,0,none⟩ v).heap[B]? = some (.cells #[v,y] t (0,0)):=by
 simp only [World.setCell]
 rw [Array.getElem?_modify,if_pos rfl,h]
 rfl
def zrq (vals:List Value) (n:Nat) (v:Value):List Value:=if n=0 then vals else vals ++ [v]
theorem zsu (B:Nat) (sv:Value) (vals:List Value) (c:Int) (b o n cp base:Nat) (W:World) (hB:W.heap[B]? = some (.cells #[sv,.int .i64 c] 190 (0,0))) (ho:W.ownsRow base 141 1 sv vals.length vals) (hb:base≤B+1) (hl:vals.length≤1000000000) (hn:n≤1000000000000) :
  Calls Tryz.prog 199 #[.pointer (some ⟨B,0,none⟩),.slice (some ⟨b,o,none⟩) n cp] W fun e w'=>e=.returned (.tuple #[])∧∃ sv',w'.heap[B]? = some (.cells #[sv',.int .i64 c] 190 (0,0)) ∧
   w'.ownsRow base 141 1 sv' (zrq vals n (.slice (some ⟨b,o,none⟩) n cp)).length (zrq vals n (.slice (some ⟨b,o,none⟩) n cp))∧W.heap.size≤w'.heap.size∧(∀ k,k<W.heap.size→k≠B→sv.ownBlock≠some k→w'.heap[k]? = W.heap[k]?)∧w'.os=W.os∧w'.tape=W.tape∧w'.output=W.output:=by
 obtain ⟨i,hi,hz0,hz1,hz2⟩:=info_parts Tryz.info141
 have hBl:B<W.heap.size:=(Array.getElem?_eq_some_iff.1 hB).1
 have c0:W.cell? ⟨B,0,none⟩=some sv:=zab hB 0
 by_cases hz:n=0
 ·subst hz
  have HB:=zac hB
  have Ho:=zac ho
  clear hB ho
  go_enter Tryz.func199,Tryz.ntmps199
  go_wp2
  go_end0
  exact ⟨rfl,sv,zaa HB,by simpa [zrq] using zaa Ho,Nat.le_refl _,fun _ _ _ _=>rfl,rfl,rfl,rfl⟩
 ·have hn0:(0:Int)<(n:Int):=by omega
  have hBA:(W.alloc (.cells #[.slice (some ⟨b,o,none⟩) n cp] 141)).heap[B]? = some (.cells #[sv,.int .i64 c] 190 (0,0)):=(Below.heap_alloc _ _ _ hBl).trans hB
  have cA:(W.alloc (.cells #[.slice (some ⟨b,o,none⟩) n cp] 141)).cell? ⟨B,0,none⟩=some sv:=zab hBA 0
  have hoA:=ho.alloc (.cells #[.slice (some ⟨b,o,none⟩) n cp] 141)
  have hne:=yd5 hoA hBA
  have hbs:base≤W.heap.size:=by omega
  have hnew:∀ j u,[Value.slice (some ⟨b,o,none⟩) n cp][j]? = some u→(W.alloc (.cells #[.slice (some ⟨b,o,none⟩) n cp] 141)).cell? ((⟨W.heap.size,0,none⟩:Addr).add j)=some u:=by
   intro j u hj
   match j,hj with
   | 0,hj=>cases hj;exact zab (zae _ _ _ rfl) 0
  have HBA:=zac hBA
  have HoA:=zac hoA
  have Hnew:=zac hnew
  have Hne:=zac hne
  clear hB ho hoA hBA hnew hne
  go_enter Tryz.func199,Tryz.ntmps199
  go_wp2_with (first
   | (refine zmq _ rfl (.tmp 11) (.tmp 13) 142 rfl base 141 i _ 1 24 Tryz.underlying142 hi hz0 hz1 hz2 rfl (by decide) sv vals.length vals rfl (zaa HoA) (some ⟨W.heap.size,0,none⟩) 1 1 [.slice (some ⟨b,o,none⟩) n cp] rfl (fun e=>by cases e) rfl (fun ad e=>by cases e;exact zaa Hnew) (by simp [Value.oneCell']) (by unfold maxLen;omega) (by omega) (by simp;omega) ?_;intro sv' w3 hrow3 hg3;have hB3:=(hg3.block B (by simp;omega) (fun e=>(zaa Hne) e.symm)).trans (zaa HBA);have c3:w3.cell? ⟨B,0,none⟩=some sv:=zab hB3 0;have f3:w3.frozen? ⟨B,0,none⟩=false:=zad hB3 0;have Hrow3:=zac hrow3;have Hg3:=zac hg3;have HB3:=zac hB3;obtain ⟨a',cap',rfl⟩:=zen hrow3;clear hrow3 hg3 hB3))
  go_end0
  have hC:=grownBy_setCell' w3 B (.slice a' (vals.length+1) cap')
  have hne3:=yd5 (zaa Hrow3) (zaa HB3)
  have e:zrq vals n (.slice (some ⟨b,o,none⟩) n cp)=vals ++ [.slice (some ⟨b,o,none⟩) n cp]:=by unfold zrq;rw [if_neg hz]
  refine ⟨rfl,_,zs2 (zaa HB3),?_,?_,fun k hk h1 h2=>?_,hC.os.trans (zaa Hg3).os,hC.tape.trans (zaa Hg3).tape,hC.output.trans (zaa Hg3).output⟩
  ·rw [e]
   have:=(zaa Hrow3).kept hC (.inr hne3)
   simpa using this
  ·have h1:=(zaa Hg3).size
   have h2:=hC.size
   simp at h1
   omega
  ·exact (hC.block k (by have:=(zaa Hg3).size;simp at this;omega) (by simp;exact h1)).trans (((zaa Hg3).block k (by simp;omega) (fun e=>h2 e.symm)).trans (Below.heap_alloc _ _ _ hk))
def zxy (c:Nat) (z:Int) (r:List zaj):List zaj:=zp9 c z (zfn c z r)
def zc5 (c:Nat) (z:Int) (rs:List (List zaj)):List (List zaj):=(rs.map (zxy c z)).filter fun r=>!r.isEmpty
theorem zuy (c:Nat) (z:Int) (rs:List (List zaj)) (k:Nat) (hk:k<rs.length):zc5 c z (rs.take (k+1))=if zxy c z (rs[k]?.getD [])=[] then zc5 c z (rs.take k) else zc5 c z (rs.take k) ++ [zxy c z (rs[k]?.getD [])]:=by
 unfold zc5
 rw [List.take_succ_eq_append_getElem hk,List.map_append,List.filter_append]
 have e:rs[k]?.getD []=rs[k]:=by simp [hk]
 rw [e]
 by_cases h:zxy c z rs[k]=[]
 ·simp [h]
 ·simp [h]
def zdw (W:World) (vals:List Value) (rs:List (List zaj)):Prop:=vals.length=rs.length∧∀ i,i<rs.length→∃ b o cp,b<W.heap.size∧vals[i]? = some (.slice (some ⟨b,o,none⟩) (rs[i]?.getD []).length cp)∧zb1 W (.slice (some ⟨b,o,none⟩) (rs[i]?.getD []).length cp) (rs[i]?.getD [])
theorem zdw.add {W:World} {vals:List Value} {rs:List (List zaj)} (h:zdw W vals rs) {r:List zaj} {b o cp:Nat} (hr:zb1 W (.slice (some ⟨b,o,none⟩) r.length cp) r):zdw W (zrq vals r.length (.slice (some ⟨b,o,none⟩) r.length cp)) (if r=[] then rs else rs ++ [r]):=by
 by_cases he:r=[]
 ·subst he
  simpa [zrq] using h
 ·have hl:r.length≠0:=fun e=>he (List.eq_nil_of_length_eq_zero e)
  rw [if_neg he]
  unfold zrq
  rw [if_neg hl]
  have hb:b<W.heap.size:=by
   obtain ⟨a,cap,e,_,hx⟩:=id hr
   obtain ⟨b',o',e',x0,_⟩:=hx 0 (by omega)
   injection e with e1 e2 e3
   have e4:=e1.trans e'
   injection e4 with e4
   injection e4 with e5 e6
   subst e5
   exact World.block_lt_of_cell? W _ x0
  obtain ⟨h1,h2⟩:=h
  refine ⟨by simp [h1],fun i hi=>?_⟩
  simp at hi
  by_cases hlt:i<rs.length
  ·obtain ⟨b',o',cp',x0,x1,x2⟩:=h2 i hlt
   refine ⟨b',o',cp',x0,?_,?_⟩
   ·rw [List.getElem?_append_left (by omega),List.getElem?_append_left hlt];exact x1
   ·rw [List.getElem?_append_left hlt];exact x2
  ·have hie:i=rs.length:=by omega
   subst hie
   refine ⟨b,o,cp,hb,?_,?_⟩
   ·rw [← h1];simp [h1]
   ·simpa using hr
theorem zb1.back {w W:World} {b o n cp:Nat} {es:List zaj} (h:zb1 w (.slice (some ⟨b,o,none⟩) n cp) es) (hb:w.heap[b]? = W.heap[b]?):zb1 W (.slice (some ⟨b,o,none⟩) n cp) es:=by
 obtain ⟨a,cap,e,hc,hx⟩:=h
 refine ⟨a,cap,e,hc,fun i hi=>?_⟩
 obtain ⟨b',o',e',x0,x1,x2,x3⟩:=hx i hi
 injection e with e1 e2 e3
 have e4:=e1.trans e'
 injection e4 with e4
 injection e4 with e5 e6
 subst e5 e6
 have key:∀ q,W.cell? ⟨b,q,none⟩=w.cell? ⟨b,q,none⟩:=fun q=>World.cell?_of_block (w:=w) (a:=⟨b,q,none⟩) hb.symm
 obtain ⟨x3,cs,x4⟩:=x3
 exact ⟨b,o,e',(key _).trans x0,(key _).trans x1,(key _).trans x2,(key _).trans x3,cs,hb.symm.trans x4⟩
theorem zb1.blk {W:World} {b o n cp:Nat} {es:List zaj} (h:zb1 W (.slice (some ⟨b,o,none⟩) n cp) es) (he:es≠[]):b<W.heap.size:=by
 obtain ⟨a,cap,e,_,hx⟩:=h
 obtain ⟨b',o',e',x0,_⟩:=hx 0 (by cases es with|nil=>exact absurd rfl he|cons=>simp)
 injection e with e1 e2 e3
 have e4:=e1.trans e'
 injection e4 with e4
 injection e4 with e5 e6
 subst e5
 exact World.block_lt_of_cell? W _ x0
theorem zsn {w:World} {base B n:Nat} {sv:Value} {xs:List Value} {cs:Array Value} (h:w.ownsRow base 141 1 sv n xs) (hB:w.heap[B]? = some (.cells cs 190 (0,0))):sv.ownBlock≠some B:=yd5 h hB
theorem zav (n:Nat) (w:World):Below n w w.drew:=⟨rfl,rfl,rfl,Nat.le_refl _,fun _ _=>rfl⟩
theorem yk8 {w w':World} {base n:Nat} {v:Value} {xs:List Value} (h:w.ownsRow base 141 1 v n xs) (hb:Below w.heap.size w w'):w'.ownsRow base 141 1 v n xs:=by
 obtain ⟨a,cap,rfl⟩:=zen h
 exact h.kept (row:=none) ⟨hb.os,hb.tape,hb.output,hb.size,fun k hk _=>hb.block k hk⟩ (by cases a with|none=>exact .inl rfl|some x=>exact .inr (by simp [Value.ownBlock]))
theorem zla {w W:World} {base:Nat} {sv:Value} {vals:List Value} {rs:List (List zaj)} (ho:w.ownsRow base 141 1 sv vals.length vals) (hv:zdw W vals rs) (hb:Below W.heap.size W w):zay w sv rs:=by
 obtain ⟨h1,h2⟩:=hv
 obtain ⟨a,cap,rfl⟩:=zen ho
 refine ⟨a,cap,by rw [h1],fun i hi=>?_⟩
 obtain ⟨b,o,cp,x0,x1,x2⟩:=h2 i hi
 rcases ho.2 with ⟨e,e0⟩|⟨g,cap',cur,e,_⟩
 ·injection e with e1 e2 e3
  omega
 ·injection e with e1 e2 e3
  subst e1 e3
  refine ⟨g,0,b,o,cp,rfl,?_,x2.below hb⟩
  have:=ho.cellAt i (by rw [h1];omega)
  rw [x1] at this
  simpa using this
theorem zq1 (rs:List (List zaj)) (c:Nat) (z:Int) (sv:Value) (W:World) (h:zay W sv rs) (hs:∀ r∈rs,zbo c r) (hc:c<3) (hn:∀ r∈rs,r.length≤1000000000000) (hl:rs.length≤100000000) :
  Calls Tryz.prog 200 #[.agg #[sv,.int .i64 c],.int .i64 z] W fun e w'=>∃ sv',e=.returned (.agg #[sv',.int .i64 ((c+1:Nat):Int)])∧zay w' sv' (zc5 c z rs)∧Below W.heap.size W w'∧∀ g,sv'.ownBlock=some g→W.heap.size<g:=by
 obtain ⟨a,cap,rfl,hx⟩:=h
 obtain ⟨W3,hW3⟩:∃ W3,W3=((W.alloc (.cells #[.slice a rs.length cap,.int .i64 c] 190)).alloc (.cells #[.slice none 0 0,.int .i64 0] 190)).alloc (.cells #[.slice none 0 0,.int .i64 (c+1)] 190):=⟨_,rfl⟩
 have hb3:Below W.heap.size W W3:=by rw [hW3];exact (((Below.refl _ _).alloc (Nat.le_refl _) _).alloc (by simp) _).alloc (by simp;omega) _
 have hsz:W3.heap.size=W.heap.size+3:=by rw [hW3];simp
 have hB0:W3.heap[W.heap.size]? = some (.cells #[.slice a rs.length cap,.int .i64 c] 190 (0,0)):=by
  rw [hW3]
  exact (Below.heap_alloc _ _ _ (by simp;omega)).trans ((Below.heap_alloc _ _ _ (by simp)).trans (zae _ _ _ rfl))
 have hB1:W3.heap[W.heap.size+1]? = some (.cells #[.slice none 0 0,.int .i64 0] 190 (0,0)):=by
  rw [hW3]
  exact (Below.heap_alloc _ _ _ (by simp)).trans (zae _ _ _ (by simp))
 have hB2:W3.heap[W.heap.size+2]? = some (.cells #[.slice none 0 0,.int .i64 (c+1)] 190 (0,0)):=by
  rw [hW3]
  exact zae _ _ _ (by simp)
 have c0:W3.cell? ⟨W.heap.size,0,none⟩=some (.slice a rs.length cap):=zab hB0 0
 have Hb3:=zac hb3
 have Hsz:=zac hsz
 have HB0:=zac hB0
 have HB1:=zac hB1
 have HB2:=zac hB2
 have Hs:=zac hs
 have Hn:=zac hn
 have Hx:=zac hx
 clear hb3 hsz hB0 hB1 hB2 hs hn hx
 go_enter Tryz.func200,Tryz.ntmps200
 go_wp2
 rw [← hW3]
 clear hW3
 try go_wp2
 go_loopw [15] (fun i wr=>∃ (k:Nat) (svk:Value) (vals:List Value),k≤rs.length∧i=.int .i64 k∧wr.heap[W.heap.size+2]? = some (.cells #[svk,.int .i64 (c+1)] 190 (0,0))∧wr.ownsRow (W.heap.size+3) 141 1 svk vals.length vals∧vals.length≤k ∧
   zdw W vals (zc5 c z (rs.take k))∧W3.heap.size≤wr.heap.size∧(∀ q,q<W3.heap.size→q≠W.heap.size+2→wr.heap[q]? = W3.heap[q]?)∧(wr.os=W3.os∧wr.tape=W3.tape∧wr.output=W3.output)) (fun i _=>rs.length - (intOf i).toNat)
 case atStart=>exact ⟨0,.slice none 0 0,[],Nat.zero_le _,rfl,zaa HB2,World.ownsRow_nil _ _ _ _,Nat.le_refl _,⟨rfl,fun i hi=>by simp [zc5] at hi⟩,Nat.le_refl _,fun _ _ _=>rfl,rfl,rfl,rfl⟩
 case round =>
  obtain ⟨k,svk,vals,hk,rfl,hR,hO,hvl,hV,hS,hF,hT⟩:=hrel
  by_cases hlt:k<rs.length
  ·have hkx:(k:Int)<(rs.length:Int):=by omega
   obtain ⟨g,q,b,o,cp,rfl,d0,hr⟩:=(zaa Hx) k hlt
   have hmem:rs[k]?.getD []∈rs:=by simp [hlt]
   have hso:=(zaa Hs) _ hmem
   have hle:=(zaa Hn) _ hmem
   have hsucc:=zuy c z rs k hlt
   have hgl:=World.block_lt_of_cell? W _ d0
   have hold:∀ q,q<W.heap.size→wr.heap[q]? = W.heap[q]?:=fun q hq=>(hF q (by rw [zaa Hsz];omega) (by omega)).trans ((zaa Hb3).block q hq)
   have d0':wr.cell? ⟨g,q+k,none⟩=_:=(World.cell?_of_block (w:=W) (a:=⟨g,q+k,none⟩) (hold g hgl)).trans d0
   have hB0r:wr.heap[W.heap.size]? = some (.cells #[.slice (some ⟨g,q,none⟩) rs.length cap,.int .i64 c] 190 (0,0)):=(hF _ (by rw [zaa Hsz];omega) (by omega)).trans (zaa HB0)
   have c1:wr.cell? ⟨W.heap.size,1,none⟩=some (.int .i64 c):=zab hB0r 1
   obtain ⟨r,hre⟩:∃ r,r=rs[k]?.getD []:=⟨_,rfl⟩
   rw [← hre] at hr hso hle hsucc d0'
   have hrr:zb1 wr.drew (.slice (some ⟨b,o,none⟩) r.length cp) r:=by
    by_cases he:r=[]
    ·subst he
     exact ⟨_,cp,rfl,hr.cap,fun i hi=>by simp at hi⟩
    ·exact hr.back ((hold b (hr.blk he)).symm)
   have hback:∀ (w4:World) (o2 cp2:Nat) (s:List zaj),Below wr.heap.size wr w4→(s≠[]→r≠[])→zb1 w4 (.slice (some ⟨b,o2,none⟩) s.length cp2) s→zb1 W (.slice (some ⟨b,o2,none⟩) s.length cp2) s:=by
    intro w4 o2 cp2 s hb4 hsr h4
    by_cases he:s=[]
    ·subst he
     exact ⟨_,cp2,rfl,h4.cap,fun i hi=>by simp at hi⟩
    ·have hbl:=hr.blk (hsr he)
     refine h4.back ((hb4.block b (Nat.lt_of_lt_of_le hbl ?_)).trans (hold b hbl))
     have:=hS;have:=zaa Hsz;omega
   have hlf:(zfn c z r).length≤1000000000000:=by unfold zfn;rw [List.length_drop];omega
   have hls:(zxy c z r).length≤1000000000000:=by unfold zxy zp9;rw [List.length_take];omega
   have hsf:zbo c (zfn c z r):=by rw [zr2 hso];exact hso.filter _
   have hsr:zxy c z r≠[]→r≠[]:=by
    intro h1 h2
    subst h2
    exact h1 rfl
   have hwl:W.heap.size+3≤wr.heap.size:=by have:=zaa Hsz;omega
   have Hrr:=zac hrr
   have Hback:=zac hback
   have Hso:=zac hso
   have Hsf:=zac hsf
   have Hsucc:=zac hsucc
   have HR:=zac hR
   have HO:=zac hO
   have HV:=zac hV
   have HF:=zac hF
   have HT:=zac hT
   have Hsr:=zac hsr
   have Hhold:=zac hold
   have hbd:Below wr.heap.size wr wr.drew:=zav _ _
   have Hbd:=zac hbd
   clear hrr hback hso hsf hsucc hR hO hV hF hT hsr hold hbd hr hre hmem d0 hB0r
   go_wp2_with fail
   go_region_with (first
    | (go_at_call 225;refine (zyv r b o cp c z _ (by exact zaa Hrr) hc (zaa Hso) hle).mono ?_;rintro e w4 ⟨o',cap',rfl,hr4,hb4⟩;have Hb4:=zac ((zaa Hbd).trans hb4);have Hr4:=zac (hr4.below hb4);have c4:w4.cell? ⟨W.heap.size,1,none⟩=some (.int .i64 c):=((zaa Hb4).cell (p:=⟨W.heap.size,1,none⟩) (World.block_lt_of_cell? _ _ c1)).trans c1;clear hr4 hb4)
    | (go_at_call 226;refine (yhs (zfn c z r) b o' cap' c z w4 (zaa Hr4) hc (zaa Hsf) hlf).mono ?_;rintro e w5 ⟨o2,cap2,rfl,hr5,hb5⟩;have Hr5:=zac ((zaa Hback) w4 o2 cap2 (zxy c z r) (zaa Hb4) (zaa Hsr) hr5);have Hb5:=zac ((zaa Hb4).trans (hb5.mono (zaa Hb4).size));clear hr5 hb5)
    | (go_at_call 199;refine (zsu (W.heap.size+2) svk vals (c+1) b o2 (zxy c z r).length cap2 (W.heap.size+3) w5 (((zaa Hb5).block _ (by omega)).trans (zaa HR)) (yk8 (zaa HO) (zaa Hb5)) (by omega) (by omega) hls).mono ?_;rintro e w6 ⟨rfl,sv6,hR6,hO6,hs6,hk6,hos6⟩))
   all_goals
    have hrel:∃ (k2:Nat) (svk:Value) (vals2:List Value),k2≤rs.length∧(k:Int)+1=(k2:Int)∧w6.heap[W.heap.size+2]? = some (.cells #[svk,.int .i64 (c+1)] 190 (0,0))∧w6.ownsRow (W.heap.size+3) 141 1 svk vals2.length vals2∧vals2.length≤k2 ∧
      zdw W vals2 (zc5 c z (rs.take k2))∧W3.heap.size≤w6.heap.size∧(∀ q,q<W3.heap.size→q≠W.heap.size+2→w6.heap[q]? = W3.heap[q]?)∧(w6.os=W3.os∧w6.tape=W3.tape∧w6.output=W3.output):=by
     have hb5:=zaa Hb5
     have hs5:=hb5.size
     refine ⟨k+1,sv6,_,by omega,by simp,hR6,hO6,?_,?_,by omega,fun q hq hne=>?_,?_⟩
     ·unfold zrq
      split
      ·omega
      ·simp;omega
     ·rw [zaa Hsucc]
      exact (zaa HV).add (zaa Hr5)
     ·have hlt5:q<wr.heap.size:=by omega
      refine (hk6 q (by omega) hne (fun e=>?_)).trans ((hb5.block q hlt5).trans ((zaa HF) q hq hne))
      have:=zhz (zaa HO) e
      have:=zaa Hsz
      omega
     ·exact ⟨hos6.1.trans (hb5.os.trans (zaa HT).1),hos6.2.1.trans (hb5.tape.trans (zaa HT).2.1),hos6.2.2.trans (hb5.output.trans (zaa HT).2.2)⟩
    have Hrel:=zac hrel
    clear hrel hR6 hO6 hs6 hk6 hos6
    go_wp2
    obtain ⟨k2,sv2,vals2,y1,y2,y3⟩:=zaa Hrel
    refine ⟨⟨k2,sv2,vals2,y1,by rw [y2],y3⟩,by simp [intOf];omega⟩
  ·have hke:k=rs.length:=by omega
   subst hke
   rw [List.take_length] at hV
   obtain ⟨a2,cap2,rfl⟩:=zen hO
   have hB1r:wr.heap[W.heap.size+1]? = some (.cells #[.slice none 0 0,.int .i64 0] 190 (0,0)):=(hF _ (by rw [zaa Hsz];omega) (by omega)).trans (zaa HB1)
   have e0:wr.cell? ⟨W.heap.size+2,0,none⟩=some (.slice a2 vals.length cap2):=zab hR 0
   have e1:wr.cell? ⟨W.heap.size+2,1,none⟩=some (.int .i64 (c+1)):=zab hR 1
   have g0:wr.cell? ⟨W.heap.size+1,0,none⟩=some (.slice none 0 0):=zab hB1r 0
   have g1:wr.cell? ⟨W.heap.size+1,1,none⟩=some (.int .i64 0):=zab hB1r 1
   have f0:wr.frozen? ⟨W.heap.size+1,0,none⟩=false:=zad hB1r 0
   have f1:wr.frozen? ⟨W.heap.size+1,1,none⟩=false:=zad hB1r 1
   have hbw:Below W.heap.size W wr:=⟨hT.1.trans (zaa Hb3).os,hT.2.1.trans (zaa Hb3).tape,hT.2.2.trans (zaa Hb3).output,Nat.le_trans (zaa Hb3).size hS,fun q hq=>(hF q (by rw [zaa Hsz];omega) (by omega)).trans ((zaa Hb3).block q hq)⟩
   have hO2:=zsn hO hB1r
   have HO:=zac hO
   have HV:=zac hV
   have Hbw:=zac hbw
   have HO2:=zac hO2
   clear hO hV hF hT hbw hR hB1r hO2
   go_wp2
   have hga:=za5 wr ⟨W.heap.size+1,0,none⟩ (.slice a2 vals.length cap2)
   have hgb:=za5 (wr.setCell ⟨W.heap.size+1,0,none⟩ (.slice a2 vals.length cap2)) ⟨W.heap.size+1,1,none⟩ (.int .i64 (c+1))
   have hgs:=hga.trans hgb
   have hb9:=(zaa Hbw).grown hgs (zaa Hbw).size (fun k e=>by cases e;simp)
   have hr9:=zla ((zaa HO).kept hgs (.inr (zaa HO2))) (zaa HV) hb9
   refine bodyPost_ret (v:=.agg #[.slice a2 vals.length cap2,.int .i64 (c+1)]) (by simp [results,Tryz.results200,go_sem,g0,g1,f0,f1]) rfl ⟨.slice a2 vals.length cap2,by simp,hr9,hb9,fun g hg=>by have:=zhz (zaa HO) hg;omega⟩
end Go.Proofs.YtoifcnidhfnapaaGreatDoor
namespace Go.Proofs.YtoifcnidhfnapaaGreatDoor
def znc (c:Nat) (rs:List (List zaj)) (z:Int):Prop:=∃ r∈rs,∃ e∈r,zal e.1 c=z
def zih (c:Nat) (z:Int) (rs:List (List zaj)) (s:Int×Bool):Prop:=
 (s.2=true→znc c rs s.1∧z≤s.1∧∀ y,znc c rs y→z≤y→s.1≤y)∧(s.2=false→∀ y,znc c rs y→¬ z≤y)
theorem zdi {c:Nat} {rs:List (List zaj)} {r:List zaj} {y:Int}:znc c (rs ++ [r]) y↔znc c rs y∨∃ e∈r,zal e.1 c=y:=by
 unfold znc
 constructor
 ·rintro ⟨q,hq,e,he,h⟩
  rcases List.mem_append.1 hq with hq|hq
  ·exact .inl ⟨q,hq,e,he,h⟩
  ·simp at hq;subst hq;exact .inr ⟨e,he,h⟩
 ·rintro (⟨q,hq,e,he,h⟩|⟨e,he,h⟩)
  ·exact ⟨q,List.mem_append_left _ hq,e,he,h⟩
  ·exact ⟨r,by simp,e,he,h⟩
theorem zpz {c:Nat} {z:Int} {rs:List (List zaj)} {r:List zaj} {s:Int×Bool} (hs:zih c z rs s) (hr:zbo c r):zih c z (rs ++ [r]) (zhe c z s r):=by
 have hf:=zr2 hr z
 unfold zhe
 cases hL:zfn c z r with
 | nil =>
  have hno:∀ e∈r,¬ z≤zal e.1 c:=by
   intro e he hz
   have:e∈zfn c z r:=by rw [hf];simp [he,hz]
   rw [hL] at this
   simp at this
  refine ⟨fun h=>?_,fun h y hy hz=>?_⟩
  ·obtain ⟨h1,h2,h3⟩:=hs.1 h
   refine ⟨zdi.2 (.inl h1),h2,fun y hy hz=>?_⟩
   rcases zdi.1 hy with hy|⟨e,he,rfl⟩
   ·exact h3 y hy hz
   ·exact absurd hz (hno e he)
  ·rcases zdi.1 hy with hy|⟨e,he,rfl⟩
   ·exact hs.2 h y hy hz
   ·exact hno e he hz
 | cons x xs =>
  have hx:x∈r∧z≤zal x.1 c:=by
   have:x∈zfn c z r:=by rw [hL];exact List.mem_cons_self ..
   rw [hf] at this
   simpa using this
  have hmin:∀ e∈r,z≤zal e.1 c→zal x.1 c≤zal e.1 c:=by
   intro e he hz
   have h1:e∈zfn c z r:=by rw [hf];simp [he,hz]
   have h2:zbo c (zfn c z r):=by rw [hf];exact hr.filter _
   rw [hL] at h1 h2
   rcases List.mem_cons.1 h1 with rfl|h1
   ·exact Int.le_refl _
   ·exact (List.pairwise_cons.1 h2).1 e h1
  dsimp only
  by_cases hc:s.2=false∨zal x.1 c<s.1
  ·rw [if_pos hc]
   refine ⟨fun _=>⟨zdi.2 (.inr ⟨x,hx.1,rfl⟩),hx.2,fun y hy hz=>?_⟩,fun h=>by cases h⟩
   rcases zdi.1 hy with hy|⟨e,he,rfl⟩
   ·cases h2:s.2 with
    | false=>exact absurd hz (hs.2 h2 y hy)
    | true =>
     have h3:=(hs.1 h2).2.2 y hy hz
     rcases hc with hc|hc
     ·rw [h2] at hc;cases hc
     ·show zal x.1 c≤y;omega
   ·exact hmin e he hz
  ·rw [if_neg hc]
   have h2:s.2=true:=by
    cases h2:s.2 with
    | true=>rfl
    | false=>exact absurd (.inl h2) hc
   have hle:s.1≤zal x.1 c:=by
    have:¬ zal x.1 c<s.1:=fun h=>hc (.inr h)
    omega
   obtain ⟨h3,h4,h5⟩:=hs.1 h2
   refine ⟨fun _=>⟨zdi.2 (.inl h3),h4,fun y hy hz=>?_⟩,fun h=>by rw [h2] at h;cases h⟩
   rcases zdi.1 hy with hy|⟨e,he,rfl⟩
   ·exact h5 y hy hz
   ·have:=hmin e he hz
    omega
theorem zxa {c:Nat} {z:Int} {rs:List (List zaj)} (h:∀ r∈rs,zbo c r):zih c z rs (zgp c z rs):=by
 have key:∀ k,k≤rs.length→zih c z (rs.take k) (zgp c z (rs.take k)):=by
  intro k
  induction k with
  | zero=>intro _;exact ⟨fun h=>by simp [zgp] at h,fun _ y hy=>by obtain ⟨r,hr,_⟩:=hy;simp at hr⟩
  | succ k ih =>
   intro hk
   have hlt:k<rs.length:=by omega
   rw [zop c z rs k hlt,List.take_succ_eq_append_getElem hlt]
   have e:rs[k]?.getD []=rs[k]:=by simp [hlt]
   rw [e]
   exact zpz (ih (by omega)) (h _ (List.getElem_mem hlt))
 have:=key rs.length (Nat.le_refl _)
 rwa [List.take_length] at this
end Go.Proofs.YtoifcnidhfnapaaGreatDoor
namespace Go.Proofs.YtoifcnidhfnapaaGreatDoor
open Go.RowKit Go.Maps Go.Sort Go.Shelf
structure SV where
 a:Option Addr
 n:Nat
 cap:Nat
def SV.val (s:SV):Value:=.slice s.a s.n s.cap
def zag (sv:Nat→SV) (cs:Nat→Int):Array Value:=#[.slice (sv 0).a (sv 0).n (sv 0).cap,.int .i64 (cs 0),.slice (sv 1).a (sv 1).n (sv 1).cap,.int .i64 (cs 1),.slice (sv 2).a (sv 2).n (sv 2).cap,.int .i64 (cs 2),.slice (sv 3).a (sv 3).n (sv 3).cap,.int .i64 (cs 3)]
theorem zaf {w:World} {B:Nat} {sv:Nat→SV} {cs:Nat→Int} {t:TypeId} (h:w.heap[B]? = some (.cells (zag sv cs) t (0,0))) (i:Nat) (hi:i<4) :
  w.cell? ⟨B,i*2,none⟩=some (.slice (sv i).a (sv i).n (sv i).cap)∧w.cell? ⟨B,i*2+1,none⟩=some (.int .i64 (cs i)):=by
 rw [zab h,zab h]
 match i,hi with
 | 0,_=>exact ⟨rfl,rfl⟩
 | 1,_=>exact ⟨rfl,rfl⟩
 | 2,_=>exact ⟨rfl,rfl⟩
 | 3,_=>exact ⟨rfl,rfl⟩
def zo1 (rss:Nat→List (List zaj)):Nat→Int
 | 0=>1
 | n+1=>wrap64 (zo1 rss n*zeq (rss n))
theorem zw6 (PB:Nat) (ka:Option Addr) (na kcap:Nat) (x1 x2:Value) (sv:Nat→SV) (cs:Nat→Int) (rss:Nat→List (List zaj)) (W:World) (hP:W.heap[PB]? = some (.cells #[.slice ka na kcap,x1,x2] 265 (0,0))) (hna:na≤4)
  (h:∀ i,i<na→zay W (sv i).val (rss i)) (hn:∀ i,i<na→(∀ r∈rss i,r.length≤1000000000000)∧(rss i).length≤100000000) :
  Calls Tryz.prog 202 #[.pointer (some ⟨PB,0,none⟩),.agg (zag sv cs)] W fun e w'=>e=.returned (.int .i64 (zo1 rss na))∧Below W.heap.size W w':=by
 obtain ⟨W1,hW1⟩:∃ W1,W1=W.alloc (.cells (zag sv cs) 192):=⟨_,rfl⟩
 have hb1:Below W.heap.size W W1:=by rw [hW1];exact (Below.refl _ _).alloc (Nat.le_refl _) _
 have hB:W1.heap[W.heap.size]? = some (.cells (zag sv cs) 192 (0,0)):=by rw [hW1];exact zae _ _ _ rfl
 have hPl:PB<W.heap.size:=(Array.getElem?_eq_some_iff.1 hP).1
 have c0:W1.cell? ⟨PB,0,none⟩=some (.slice ka na kcap):=zab ((hb1.block PB hPl).trans hP) 0
 have cW:W.cell? ⟨PB,0,none⟩=some (.slice ka na kcap):=zab hP 0
 have hl1:W.heap.size<W1.heap.size:=by rw [hW1];simp
 have Hb1:=zac hb1
 have HB:=zac hB
 have Hh:=zac h
 have Hn:=zac hn
 clear hb1 hB h hn hP
 go_enter Tryz.func202,Tryz.ntmps202
 unfold zag at hW1 ⊢
 go_wp2
 rw [← hW1]
 clear hW1 cW
 go_loopw [5,12] (fun p i wr=>∃ k:Nat,k≤na∧i=.int .i64 k∧p=.int .i64 (zo1 rss k)∧Below W1.heap.size W1 wr) (fun _ i _=>na - (intOf i).toNat)
 case atStart=>exact ⟨0,Nat.zero_le _,rfl,rfl,Below.refl _ _⟩
 case round =>
  obtain ⟨k,hk,rfl,rfl,hB⟩:=hrel
  by_cases hlt:k<na
  ·have hkx:(k:Int)<(na:Int):=by omega
   have hk4:(k:Int)<4:=by omega
   have hBr:=(hB.block W.heap.size hl1).trans (zaa HB)
   obtain ⟨d0,d1⟩:=zaf hBr k (by omega)
   have hbr:Below W.heap.size W wr:=(zaa Hb1).trans (hB.mono (zaa Hb1).size)
   have Hr:=zac (((zaa Hh) k hlt).below hbr)
   have Hnk:=zac ((zaa Hn) k hlt)
   obtain ⟨p0,hp0⟩:∃ p0,p0=zo1 rss k:=⟨_,rfl⟩
   have hs:zo1 rss (k+1)=wrap64 (p0*zeq (rss k)):=by rw [hp0];rfl
   rw [← hp0]
   have Hsu:=zac hs
   have HBr:=zac hB
   clear hs hp0 hbr hBr hB
   obtain ⟨s,hs⟩:∃ s,s=sv k:=⟨_,rfl⟩
   obtain ⟨q,hq⟩:∃ q,q=cs k:=⟨_,rfl⟩
   rw [← hs] at d0 Hr
   rw [← hq] at d1
   obtain ⟨sa,sn,sc⟩:=s
   dsimp only at d0
   have Hr2:Hid (zay wr (.slice sa sn sc) (rss k)):=Hr
   have Hl1:Hid (∀ r∈rss k,r.length≤1000000000000):=(zaa Hnk).1
   have Hl2:Hid ((rss k).length≤1000000000000):=Nat.le_trans (zaa Hnk).2 (by decide)
   clear Hr Hnk hs hq
   go_wp2_with (first
    | (go_at_call 227;refine (zho (rss k) q (.slice sa sn sc) wr (zaa Hr2) (zaa Hl1) (zaa Hl2)).mono ?_;rintro e w2 ⟨rfl,hb2⟩))
   refine ⟨⟨k+1,by omega,by simp,by rw [zaa Hsu],(zaa HBr).trans (hb2.mono (zaa HBr).size)⟩,by simp [intOf];omega⟩
  ·have hke:k=na:=by omega
   subst hke
   go_wp2
   go_ret
   exact ⟨rfl,(zaa Hb1).trans (hB.mono (zaa Hb1).size)⟩
end Go.Proofs.YtoifcnidhfnapaaGreatDoor
