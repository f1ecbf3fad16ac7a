import Derived.Test.YtoifcnidhfnapaaGreatDoorP13
set_option linter.unusedVariables false
set_option linter.unusedSimpArgs false
namespace Go.Proofs.YtoifcnidhfnapaaGreatDoor
open Go.RowKit Go.Maps Go.Sort Go.Shelf
def segL (c:Nat) (z:Int) (r:List REnt):List REnt:=znm c z (zet c z r)
def zcp (c:Nat) (z:Int) (rs:List (List REnt)):List (List REnt):=(rs.map (segL c z)).filter fun r=>!r.isEmpty
theorem zsa (c:Nat) (z:Int) (rs:List (List REnt)) (k:Nat) (hk:k<rs.length):zcp c z (rs.take (k+1))=if segL c z (rs[k]?.getD [])=[] then zcp c z (rs.take k) else zcp c z (rs.take k) ++ [segL c z (rs[k]?.getD [])]:=by
 unfold zcp
 rw [List.take_succ_eq_append_getElem hk,List.map_append,List.filter_append]
 have e:rs[k]?.getD []=rs[k]:=by simp [hk]
 rw [e]
 by_cases h:segL c z rs[k]=[]
 ·simp [h]
 ·simp [h]
def zdf (W:World) (vals:List Value) (rs:List (List REnt)):Prop:=vals.length=rs.length∧∀ i,i<rs.length→∃ b o cp,b<W.heap.size∧vals[i]? = some (.slice (some ⟨b,o,none⟩) (rs[i]?.getD []).length cp)∧zbq W (.slice (some ⟨b,o,none⟩) (rs[i]?.getD []).length cp) (rs[i]?.getD [])
theorem zdf.add {W:World} {vals:List Value} {rs:List (List REnt)} (h:zdf W vals rs) {r:List REnt} {b o cp:Nat} (hr:zbq W (.slice (some ⟨b,o,none⟩) r.length cp) r):zdf W (addV vals r.length (.slice (some ⟨b,o,none⟩) r.length cp)) (if r=[] then rs else rs ++ [r]):=by
 by_cases he:r=[]
 ·subst he
  simpa [addV] using h
 ·have hl:r.length≠0:=fun e=>he (List.eq_nil_of_length_eq_zero e)
  rw [if_neg he]
  unfold addV
  rw [if_neg hl]
  have hb:b<W.heap.size:=by
   obtain ⟨a,cap,e,_,hx⟩:=id hr
   obtain ⟨b',o',e',x0,_⟩:=hx 0 (by omega)
   injection e with e1 e2 e3
   have e4:=e1.trans e'
   injection e4 with e4
   injection e4 with e5 e6
   subst e5
   exact World.block_lt_of_cell? W _ x0
  obtain ⟨h1,h2⟩:=h
  refine ⟨by simp [h1],fun i hi=>?_⟩
  simp at hi
  by_cases hlt:i<rs.length
  ·obtain ⟨b',o',cp',x0,x1,x2⟩:=h2 i hlt
   refine ⟨b',o',cp',x0,?_,?_⟩
   ·rw [List.getElem?_append_left (by omega),List.getElem?_append_left hlt];exact x1
   ·rw [List.getElem?_append_left hlt];exact x2
  ·have hie:i=rs.length:=by omega
   subst hie
   refine ⟨b,o,cp,hb,?_,?_⟩
   ·rw [← h1];simp [h1]
   ·simpa using hr
theorem zbq.back {w W:World} {b o n cp:Nat} {es:List REnt} (h:zbq w (.slice (some ⟨b,o,none⟩) n cp) es) (hb:w.heap[b]? = W.heap[b]?):zbq W (.slice (some ⟨b,o,none⟩) n cp) es:=by
 obtain ⟨a,cap,e,hc,hx⟩:=h
 refine ⟨a,cap,e,hc,fun i hi=>?_⟩
 obtain ⟨b',o',e',x0,x1,x2,x3⟩:=hx i hi
 injection e with e1 e2 e3
 have e4:=e1.trans e'
 injection e4 with e4
 injection e4 with e5 e6
 subst e5 e6
 have key:∀ q,W.cell? ⟨b,q,none⟩=w.cell? ⟨b,q,none⟩:=fun q=>World.cell?_of_block (w:=w) (a:=⟨b,q,none⟩) hb.symm
 obtain ⟨x3,cs,x4⟩:=x3
 exact ⟨b,o,e',(key _).trans x0,(key _).trans x1,(key _).trans x2,(key _).trans x3,cs,hb.symm.trans x4⟩
theorem zbq.blk {W:World} {b o n cp:Nat} {es:List REnt} (h:zbq W (.slice (some ⟨b,o,none⟩) n cp) es) (he:es≠[]):b<W.heap.size:=by
 obtain ⟨a,cap,e,_,hx⟩:=h
 obtain ⟨b',o',e',x0,_⟩:=hx 0 (by cases es with|nil=>exact absurd rfl he|cons=>simp)
 injection e with e1 e2 e3
 have e4:=e1.trans e'
 injection e4 with e4
 injection e4 with e5 e6
 subst e5
 exact World.block_lt_of_cell? W _ x0
theorem zqg {w:World} {base B n:Nat} {sv:Value} {xs:List Value} {cs:Array Value} (h:w.ownsRow base 141 1 sv n xs) (hB:w.heap[B]? = some (.cells cs 190 (0,0))):sv.ownBlock≠some B:=zzx h hB
theorem zaq (n:Nat) (w:World):Below n w w.drew:=⟨rfl,rfl,rfl,Nat.le_refl _,fun _ _=>rfl⟩
theorem ownsB {w w':World} {base n:Nat} {v:Value} {xs:List Value} (h:w.ownsRow base 141 1 v n xs) (hb:Below w.heap.size w w'):w'.ownsRow base 141 1 v n xs:=by
 obtain ⟨a,cap,rfl⟩:=zd0 h
 exact h.kept (row:=none) ⟨hb.os,hb.tape,hb.output,hb.size,fun k hk _=>hb.block k hk⟩ (by cases a with|none=>exact .inl rfl|some x=>exact .inr (by simp [Value.ownBlock]))
theorem zjo {w W:World} {base:Nat} {sv:Value} {vals:List Value} {rs:List (List REnt)} (ho:w.ownsRow base 141 1 sv vals.length vals) (hv:zdf W vals rs) (hb:Below W.heap.size W w):zau w sv rs:=by
 obtain ⟨h1,h2⟩:=hv
 obtain ⟨a,cap,rfl⟩:=zd0 ho
 refine ⟨a,cap,by rw [h1],fun i hi=>?_⟩
 obtain ⟨b,o,cp,x0,x1,x2⟩:=h2 i hi
 rcases ho.2 with ⟨e,e0⟩|⟨g,cap',cur,e,_⟩
 ·injection e with e1 e2 e3
  omega
 ·injection e with e1 e2 e3
  subst e1 e3
  refine ⟨g,0,b,o,cp,rfl,?_,x2.below hb⟩
  have:=ho.cellAt i (by rw [h1];omega)
  rw [x1] at this
  simpa using this
set_option maxRecDepth 100000 in
set_option maxHeartbeats 8000000 in
theorem zoh (rs:List (List REnt)) (c:Nat) (z:Int) (sv:Value) (W:World) (h:zau W sv rs) (hs:∀ r∈rs,zbc c r) (hc:c<3) (hn:∀ r∈rs,r.length≤1000000000000) (hl:rs.length≤100000000) :
  Calls Tryz.prog 200 #[.agg #[sv,.int .i64 c],.int .i64 z] W fun e w'=>∃ sv',e=.returned (.agg #[sv',.int .i64 ((c+1:Nat):Int)])∧zau w' sv' (zcp c z rs)∧Below W.heap.size W w'∧∀ g,sv'.ownBlock=some g→W.heap.size<g:=by
 obtain ⟨a,cap,rfl,hx⟩:=h
 obtain ⟨W3,hW3⟩:∃ W3,W3=((W.alloc (.cells #[.slice a rs.length cap,.int .i64 c] 190)).alloc (.cells #[.slice none 0 0,.int .i64 0] 190)).alloc (.cells #[.slice none 0 0,.int .i64 (c+1)] 190):=⟨_,rfl⟩
 have hb3:Below W.heap.size W W3:=by rw [hW3];exact (((Below.refl _ _).alloc (Nat.le_refl _) _).alloc (by simp) _).alloc (by simp;omega) _
 have hsz:W3.heap.size=W.heap.size+3:=by rw [hW3];simp
 have hB0:W3.heap[W.heap.size]? = some (.cells #[.slice a rs.length cap,.int .i64 c] 190 (0,0)):=by
  rw [hW3]
  exact (Below.heap_alloc _ _ _ (by simp;omega)).trans ((Below.heap_alloc _ _ _ (by simp)).trans (zad _ _ _ rfl))
 have hB1:W3.heap[W.heap.size+1]? = some (.cells #[.slice none 0 0,.int .i64 0] 190 (0,0)):=by
  rw [hW3]
  exact (Below.heap_alloc _ _ _ (by simp)).trans (zad _ _ _ (by simp))
 have hB2:W3.heap[W.heap.size+2]? = some (.cells #[.slice none 0 0,.int .i64 (c+1)] 190 (0,0)):=by
  rw [hW3]
  exact zad _ _ _ (by simp)
 have c0:W3.cell? ⟨W.heap.size,0,none⟩=some (.slice a rs.length cap):=zab hB0 0
 have Hb3:=hide hb3
 have Hsz:=hide hsz
 have HB0:=hide hB0
 have HB1:=hide hB1
 have HB2:=hide hB2
 have Hs:=hide hs
 have Hn:=hide hn
 have Hx:=hide hx
 clear hb3 hsz hB0 hB1 hB2 hs hn hx
 go_enter Tryz.func200,Tryz.ntmps200
 go_wp2
 rw [← hW3]
 clear hW3
 try go_wp2
 go_loopw [15] (fun i wr=>∃ (k:Nat) (svk:Value) (vals:List Value),k≤rs.length∧i=.int .i64 k∧wr.heap[W.heap.size+2]? = some (.cells #[svk,.int .i64 (c+1)] 190 (0,0))∧wr.ownsRow (W.heap.size+3) 141 1 svk vals.length vals∧vals.length≤k ∧
   zdf W vals (zcp c z (rs.take k))∧W3.heap.size≤wr.heap.size∧(∀ q,q<W3.heap.size→q≠W.heap.size+2→wr.heap[q]? = W3.heap[q]?)∧(wr.os=W3.os∧wr.tape=W3.tape∧wr.output=W3.output)) (fun i _=>rs.length - (intOf i).toNat)
 case atStart=>exact ⟨0,.slice none 0 0,[],Nat.zero_le _,rfl,zaa HB2,World.ownsRow_nil _ _ _ _,Nat.le_refl _,⟨rfl,fun i hi=>by simp [zcp] at hi⟩,Nat.le_refl _,fun _ _ _=>rfl,rfl,rfl,rfl⟩
 case round =>
  obtain ⟨k,svk,vals,hk,rfl,hR,hO,hvl,hV,hS,hF,hT⟩:=hrel
  by_cases hlt:k<rs.length
  ·have hkx:(k:Int)<(rs.length:Int):=by omega
   obtain ⟨g,q,b,o,cp,rfl,d0,hr⟩:=(zaa Hx) k hlt
   have hmem:rs[k]?.getD []∈rs:=by simp [hlt]
   have hso:=(zaa Hs) _ hmem
   have hle:=(zaa Hn) _ hmem
   have hsucc:=zsa c z rs k hlt
   have hgl:=World.block_lt_of_cell? W _ d0
   have hold:∀ q,q<W.heap.size→wr.heap[q]? = W.heap[q]?:=fun q hq=>(hF q (by rw [zaa Hsz];omega) (by omega)).trans ((zaa Hb3).block q hq)
   have d0':wr.cell? ⟨g,q+k,none⟩=_:=(World.cell?_of_block (w:=W) (a:=⟨g,q+k,none⟩) (hold g hgl)).trans d0
   have hB0r:wr.heap[W.heap.size]? = some (.cells #[.slice (some ⟨g,q,none⟩) rs.length cap,.int .i64 c] 190 (0,0)):=(hF _ (by rw [zaa Hsz];omega) (by omega)).trans (zaa HB0)
   have c1:wr.cell? ⟨W.heap.size,1,none⟩=some (.int .i64 c):=zab hB0r 1
   obtain ⟨r,hre⟩:∃ r,r=rs[k]?.getD []:=⟨_,rfl⟩
   rw [← hre] at hr hso hle hsucc d0'
   have hrr:zbq wr.drew (.slice (some ⟨b,o,none⟩) r.length cp) r:=by
    by_cases he:r=[]
    ·subst he
     exact ⟨_,cp,rfl,hr.cap,fun i hi=>by simp at hi⟩
    ·exact hr.back ((hold b (hr.blk he)).symm)
   have hback:∀ (w4:World) (o2 cp2:Nat) (s:List REnt),Below wr.heap.size wr w4→(s≠[]→r≠[])→zbq w4 (.slice (some ⟨b,o2,none⟩) s.length cp2) s→zbq W (.slice (some ⟨b,o2,none⟩) s.length cp2) s:=by
    intro w4 o2 cp2 s hb4 hsr h4
    by_cases he:s=[]
    ·subst he
     exact ⟨_,cp2,rfl,h4.cap,fun i hi=>by simp at hi⟩
    ·have hbl:=hr.blk (hsr he)
     refine h4.back ((hb4.block b (Nat.lt_of_lt_of_le hbl ?_)).trans (hold b hbl))
     have:=hS;have:=zaa Hsz;omega
   have hlf:(zet c z r).length≤1000000000000:=by unfold zet;rw [List.length_drop];omega
   have hls:(segL c z r).length≤1000000000000:=by unfold segL znm;rw [List.length_take];omega
   have hsf:zbc c (zet c z r):=by rw [zpo hso];exact hso.filter _
   have hsr:segL c z r≠[]→r≠[]:=by
    intro h1 h2
    subst h2
    exact h1 rfl
   have hwl:W.heap.size+3≤wr.heap.size:=by have:=zaa Hsz;omega
   have Hrr:=hide hrr
   have Hback:=hide hback
   have Hso:=hide hso
   have Hsf:=hide hsf
   have Hsucc:=hide hsucc
   have HR:=hide hR
   have HO:=hide hO
   have HV:=hide hV
   have HF:=hide hF
   have HT:=hide hT
   have Hsr:=hide hsr
   have Hhold:=hide hold
   have hbd:Below wr.heap.size wr wr.drew:=zaq _ _
   have Hbd:=hide hbd
   clear hrr hback hso hsf hsucc hR hO hV hF hT hsr hold hbd hr hre hmem d0 hB0r
   go_wp2_with fail
   go_region_with (first
    | (go_at_call 225;refine (zvr r b o cp c z _ (by exact zaa Hrr) hc (zaa Hso) hle).mono ?_;rintro e w4 ⟨o',cap',rfl,hr4,hb4⟩;have Hb4:=hide ((zaa Hbd).trans hb4);have Hr4:=hide (hr4.below hb4);have c4:w4.cell? ⟨W.heap.size,1,none⟩=some (.int .i64 c):=((zaa Hb4).cell (p:=⟨W.heap.size,1,none⟩) (World.block_lt_of_cell? _ _ c1)).trans c1;clear hr4 hb4)
    | (go_at_call 226;refine (upTo_any (zet c z r) b o' cap' c z w4 (zaa Hr4) hc (zaa Hsf) hlf).mono ?_;rintro e w5 ⟨o2,cap2,rfl,hr5,hb5⟩;have Hr5:=hide ((zaa Hback) w4 o2 cap2 (segL c z r) (zaa Hb4) (zaa Hsr) hr5);have Hb5:=hide ((zaa Hb4).trans (hb5.mono (zaa Hb4).size));clear hr5 hb5)
    | (go_at_call 199;refine (zpj (W.heap.size+2) svk vals (c+1) b o2 (segL c z r).length cap2 (W.heap.size+3) w5 (((zaa Hb5).block _ (by omega)).trans (zaa HR)) (ownsB (zaa HO) (zaa Hb5)) (by omega) (by omega) hls).mono ?_;rintro e w6 ⟨rfl,sv6,hR6,hO6,hs6,hk6,hos6⟩))
   all_goals
    have hrel:∃ (k2:Nat) (svk:Value) (vals2:List Value),k2≤rs.length∧(k:Int)+1=(k2:Int)∧w6.heap[W.heap.size+2]? = some (.cells #[svk,.int .i64 (c+1)] 190 (0,0))∧w6.ownsRow (W.heap.size+3) 141 1 svk vals2.length vals2∧vals2.length≤k2 ∧
      zdf W vals2 (zcp c z (rs.take k2))∧W3.heap.size≤w6.heap.size∧(∀ q,q<W3.heap.size→q≠W.heap.size+2→w6.heap[q]? = W3.heap[q]?)∧(w6.os=W3.os∧w6.tape=W3.tape∧w6.output=W3.output):=by
     have hb5:=zaa Hb5
     have hs5:=hb5.size
     refine ⟨k+1,sv6,_,by omega,by simp,hR6,hO6,?_,?_,by omega,fun q hq hne=>?_,?_⟩
     ·unfold addV
      split
      ·omega
      ·simp;omega
     ·rw [zaa Hsucc]
      exact (zaa HV).add (zaa Hr5)
     ·have hlt5:q<wr.heap.size:=by omega
      refine (hk6 q (by omega) hne (fun e=>?_)).trans ((hb5.block q hlt5).trans ((zaa HF) q hq hne))
      have:=zgo (zaa HO) e
      have:=zaa Hsz
      omega
     ·exact ⟨hos6.1.trans (hb5.os.trans (zaa HT).1),hos6.2.1.trans (hb5.tape.trans (zaa HT).2.1),hos6.2.2.trans (hb5.output.trans (zaa HT).2.2)⟩
    have Hrel:=hide hrel
    clear hrel hR6 hO6 hs6 hk6 hos6
    go_wp2
    obtain ⟨k2,sv2,vals2,y1,y2,y3⟩:=zaa Hrel
    refine ⟨⟨k2,sv2,vals2,y1,by rw [y2],y3⟩,by simp [intOf];omega⟩
  ·have hke:k=rs.length:=by omega
   subst hke
   rw [List.take_length] at hV
   obtain ⟨a2,cap2,rfl⟩:=zd0 hO
   have hB1r:wr.heap[W.heap.size+1]? = some (.cells #[.slice none 0 0,.int .i64 0] 190 (0,0)):=(hF _ (by rw [zaa Hsz];omega) (by omega)).trans (zaa HB1)
   have e0:wr.cell? ⟨W.heap.size+2,0,none⟩=some (.slice a2 vals.length cap2):=zab hR 0
   have e1:wr.cell? ⟨W.heap.size+2,1,none⟩=some (.int .i64 (c+1)):=zab hR 1
   have g0:wr.cell? ⟨W.heap.size+1,0,none⟩=some (.slice none 0 0):=zab hB1r 0
   have g1:wr.cell? ⟨W.heap.size+1,1,none⟩=some (.int .i64 0):=zab hB1r 1
   have f0:wr.frozen? ⟨W.heap.size+1,0,none⟩=false:=zac hB1r 0
   have f1:wr.frozen? ⟨W.heap.size+1,1,none⟩=false:=zac hB1r 1
   have hbw:Below W.heap.size W wr:=⟨hT.1.trans (zaa Hb3).os,hT.2.1.trans (zaa Hb3).tape,hT.2.2.trans (zaa Hb3).output,Nat.le_trans (zaa Hb3).size hS,fun q hq=>(hF q (by rw [zaa Hsz];omega) (by omega)).trans ((zaa Hb3).block q hq)⟩
   have hO2:=zqg hO hB1r
   have HO:=hide hO
   have HV:=hide hV
   have Hbw:=hide hbw
   have HO2:=hide hO2
   clear hO hV hF hT hbw hR hB1r hO2
   go_wp2
   have hga:=za1 wr ⟨W.heap.size+1,0,none⟩ (.slice a2 vals.length cap2)
   have hgb:=za1 (wr.setCell ⟨W.heap.size+1,0,none⟩ (.slice a2 vals.length cap2)) ⟨W.heap.size+1,1,none⟩ (.int .i64 (c+1))
   have hgs:=hga.trans hgb
   have hb9:=(zaa Hbw).grown hgs (zaa Hbw).size (fun k e=>by cases e;simp)
   have hr9:=zjo ((zaa HO).kept hgs (.inr (zaa HO2))) (zaa HV) hb9
   refine bodyPost_ret (v:=.agg #[.slice a2 vals.length cap2,.int .i64 (c+1)]) (by simp [results,Tryz.results200,go_sem,g0,g1,f0,f1]) rfl ⟨.slice a2 vals.length cap2,by simp,hr9,hb9,fun g hg=>by have:=zgo (zaa HO) hg;omega⟩
end Go.Proofs.YtoifcnidhfnapaaGreatDoor
namespace Go.Proofs.YtoifcnidhfnapaaGreatDoor
def zk9 (c:Nat) (rs:List (List REnt)) (z:Int):Prop:=∃ r∈rs,∃ e∈r,zah e.1 c=z
def zg7 (c:Nat) (z:Int) (rs:List (List REnt)) (s:Int×Bool):Prop:=
 (s.2=true→zk9 c rs s.1∧z≤s.1∧∀ y,zk9 c rs y→z≤y→s.1≤y)∧(s.2=false→∀ y,zk9 c rs y→¬ z≤y)
theorem zc0 {c:Nat} {rs:List (List REnt)} {r:List REnt} {y:Int}:zk9 c (rs ++ [r]) y↔zk9 c rs y∨∃ e∈r,zah e.1 c=y:=by
 unfold zk9
 constructor
 ·rintro ⟨q,hq,e,he,h⟩
  rcases List.mem_append.1 hq with hq|hq
  ·exact .inl ⟨q,hq,e,he,h⟩
  ·simp at hq;subst hq;exact .inr ⟨e,he,h⟩
 ·rintro (⟨q,hq,e,he,h⟩|⟨e,he,h⟩)
  ·exact ⟨q,List.mem_append_left _ hq,e,he,h⟩
  ·exact ⟨r,by simp,e,he,h⟩
theorem znj {c:Nat} {z:Int} {rs:List (List REnt)} {r:List REnt} {s:Int×Bool} (hs:zg7 c z rs s) (hr:zbc c r):zg7 c z (rs ++ [r]) (zfy c z s r):=by
 have hf:=zpo hr z
 unfold zfy
 cases hL:zet c z r with
 | nil =>
  have hno:∀ e∈r,¬ z≤zah e.1 c:=by
   intro e he hz
   have:e∈zet c z r:=by rw [hf];simp [he,hz]
   rw [hL] at this
   simp at this
  refine ⟨fun h=>?_,fun h y hy hz=>?_⟩
  ·obtain ⟨h1,h2,h3⟩:=hs.1 h
   refine ⟨zc0.2 (.inl h1),h2,fun y hy hz=>?_⟩
   rcases zc0.1 hy with hy|⟨e,he,rfl⟩
   ·exact h3 y hy hz
   ·exact absurd hz (hno e he)
  ·rcases zc0.1 hy with hy|⟨e,he,rfl⟩
   ·exact hs.2 h y hy hz
   ·exact hno e he hz
 | cons x xs =>
  have hx:x∈r∧z≤zah x.1 c:=by
   have:x∈zet c z r:=by rw [hL];exact List.mem_cons_self ..
   rw [hf] at this
   simpa using this
  have hmin:∀ e∈r,z≤zah e.1 c→zah x.1 c≤zah e.1 c:=by
   intro e he hz
   have h1:e∈zet c z r:=by rw [hf];simp [he,hz]
   have h2:zbc c (zet c z r):=by rw [hf];exact hr.filter _
   rw [hL] at h1 h2
   rcases List.mem_cons.1 h1 with rfl|h1
   ·exact Int.le_refl _
   ·exact (List.pairwise_cons.1 h2).1 e h1
  dsimp only
  by_cases hc:s.2=false∨zah x.1 c<s.1
  ·rw [if_pos hc]
   refine ⟨fun _=>⟨zc0.2 (.inr ⟨x,hx.1,rfl⟩),hx.2,fun y hy hz=>?_⟩,fun h=>by cases h⟩
   rcases zc0.1 hy with hy|⟨e,he,rfl⟩
   ·cases h2:s.2 with
    | false=>exact absurd hz (hs.2 h2 y hy)
    | true =>
     have h3:=(hs.1 h2).2.2 y hy hz
     rcases hc with hc|hc
     ·rw [h2] at hc;cases hc
     ·show zah x.1 c≤y;omega
   ·exact hmin e he hz
  ·rw [if_neg hc]
   have h2:s.2=true:=by
    cases h2:s.2 with
    | true=>rfl
    | false=>exact absurd (.inl h2) hc
   have hle:s.1≤zah x.1 c:=by
    have:¬ zah x.1 c<s.1:=fun h=>hc (.inr h)
    omega
   obtain ⟨h3,h4,h5⟩:=hs.1 h2
   refine ⟨fun _=>⟨zc0.2 (.inl h3),h4,fun y hy hz=>?_⟩,fun h=>by rw [h2] at h;cases h⟩
   rcases zc0.1 hy with hy|⟨e,he,rfl⟩
   ·exact h5 y hy hz
   ·have:=hmin e he hz
    omega
theorem zui {c:Nat} {z:Int} {rs:List (List REnt)} (h:∀ r∈rs,zbc c r):zg7 c z rs (zfp c z rs):=by
 have key:∀ k,k≤rs.length→zg7 c z (rs.take k) (zfp c z (rs.take k)):=by
  intro k
  induction k with
  | zero=>intro _;exact ⟨fun h=>by simp [zfp] at h,fun _ y hy=>by obtain ⟨r,hr,_⟩:=hy;simp at hr⟩
  | succ k ih =>
   intro hk
   have hlt:k<rs.length:=by omega
   rw [zmw c z rs k hlt,List.take_succ_eq_append_getElem hlt]
   have e:rs[k]?.getD []=rs[k]:=by simp [hlt]
   rw [e]
   exact znj (ih (by omega)) (h _ (List.getElem_mem hlt))
 have:=key rs.length (Nat.le_refl _)
 rwa [List.take_length] at this
end Go.Proofs.YtoifcnidhfnapaaGreatDoor
namespace Go.Proofs.YtoifcnidhfnapaaGreatDoor
open Go.RowKit Go.Maps Go.Sort Go.Shelf
structure SV where
 a:Option Addr
 n:Nat
 cap:Nat
def SV.val (s:SV):Value:=.slice s.a s.n s.cap
def zaf (sv:Nat→SV) (cs:Nat→Int):Array Value:=#[.slice (sv 0).a (sv 0).n (sv 0).cap,.int .i64 (cs 0),.slice (sv 1).a (sv 1).n (sv 1).cap,.int .i64 (cs 1),.slice (sv 2).a (sv 2).n (sv 2).cap,.int .i64 (cs 2),.slice (sv 3).a (sv 3).n (sv 3).cap,.int .i64 (cs 3)]
theorem zae {w:World} {B:Nat} {sv:Nat→SV} {cs:Nat→Int} {t:TypeId} (h:w.heap[B]? = some (.cells (zaf sv cs) t (0,0))) (i:Nat) (hi:i<4) :
  w.cell? ⟨B,i*2,none⟩=some (.slice (sv i).a (sv i).n (sv i).cap)∧w.cell? ⟨B,i*2+1,none⟩=some (.int .i64 (cs i)):=by
 rw [zab h,zab h]
 match i,hi with
 | 0,_=>exact ⟨rfl,rfl⟩
 | 1,_=>exact ⟨rfl,rfl⟩
 | 2,_=>exact ⟨rfl,rfl⟩
 | 3,_=>exact ⟨rfl,rfl⟩
def zmq (rss:Nat→List (List REnt)):Nat→Int
 | 0=>1
 | n+1=>wrap64 (zmq rss n*zd5 (rss n))
set_option maxRecDepth 100000 in
set_option maxHeartbeats 600000 in
theorem zuz (PB:Nat) (ka:Option Addr) (na kcap:Nat) (x1 x2:Value) (sv:Nat→SV) (cs:Nat→Int) (rss:Nat→List (List REnt)) (W:World) (hP:W.heap[PB]? = some (.cells #[.slice ka na kcap,x1,x2] 265 (0,0))) (hna:na≤4)
  (h:∀ i,i<na→zau W (sv i).val (rss i)) (hn:∀ i,i<na→(∀ r∈rss i,r.length≤1000000000000)∧(rss i).length≤100000000) :
  Calls Tryz.prog 202 #[.pointer (some ⟨PB,0,none⟩),.agg (zaf sv cs)] W fun e w'=>e=.returned (.int .i64 (zmq rss na))∧Below W.heap.size W w':=by
 obtain ⟨W1,hW1⟩:∃ W1,W1=W.alloc (.cells (zaf sv cs) 192):=⟨_,rfl⟩
 have hb1:Below W.heap.size W W1:=by rw [hW1];exact (Below.refl _ _).alloc (Nat.le_refl _) _
 have hB:W1.heap[W.heap.size]? = some (.cells (zaf sv cs) 192 (0,0)):=by rw [hW1];exact zad _ _ _ rfl
 have hPl:PB<W.heap.size:=(Array.getElem?_eq_some_iff.1 hP).1
 have c0:W1.cell? ⟨PB,0,none⟩=some (.slice ka na kcap):=zab ((hb1.block PB hPl).trans hP) 0
 have cW:W.cell? ⟨PB,0,none⟩=some (.slice ka na kcap):=zab hP 0
 have hl1:W.heap.size<W1.heap.size:=by rw [hW1];simp
 have Hb1:=hide hb1
 have HB:=hide hB
 have Hh:=hide h
 have Hn:=hide hn
 clear hb1 hB h hn hP
 go_enter Tryz.func202,Tryz.ntmps202
 unfold zaf at hW1 ⊢
 go_wp2
 rw [← hW1]
 clear hW1 cW
 go_loopw [5,12] (fun p i wr=>∃ k:Nat,k≤na∧i=.int .i64 k∧p=.int .i64 (zmq rss k)∧Below W1.heap.size W1 wr) (fun _ i _=>na - (intOf i).toNat)
 case atStart=>exact ⟨0,Nat.zero_le _,rfl,rfl,Below.refl _ _⟩
 case round =>
  obtain ⟨k,hk,rfl,rfl,hB⟩:=hrel
  by_cases hlt:k<na
  ·have hkx:(k:Int)<(na:Int):=by omega
   have hk4:(k:Int)<4:=by omega
   have hBr:=(hB.block W.heap.size hl1).trans (zaa HB)
   obtain ⟨d0,d1⟩:=zae hBr k (by omega)
   have hbr:Below W.heap.size W wr:=(zaa Hb1).trans (hB.mono (zaa Hb1).size)
   have Hr:=hide (((zaa Hh) k hlt).below hbr)
   have Hnk:=hide ((zaa Hn) k hlt)
   obtain ⟨p0,hp0⟩:∃ p0,p0=zmq rss k:=⟨_,rfl⟩
   have hs:zmq rss (k+1)=wrap64 (p0*zd5 (rss k)):=by rw [hp0];rfl
   rw [← hp0]
   have Hsu:=hide hs
   have HBr:=hide hB
   clear hs hp0 hbr hBr hB
   obtain ⟨s,hs⟩:∃ s,s=sv k:=⟨_,rfl⟩
   obtain ⟨q,hq⟩:∃ q,q=cs k:=⟨_,rfl⟩
   rw [← hs] at d0 Hr
   rw [← hq] at d1
   obtain ⟨sa,sn,sc⟩:=s
   dsimp only at d0
   have Hr2:Hid (zau wr (.slice sa sn sc) (rss k)):=Hr
   have Hl1:Hid (∀ r∈rss k,r.length≤1000000000000):=(zaa Hnk).1
   have Hl2:Hid ((rss k).length≤1000000000000):=Nat.le_trans (zaa Hnk).2 (by decide)
   clear Hr Hnk hs hq
   go_wp2_with (first
    | (go_at_call 227;refine (zf7 (rss k) q (.slice sa sn sc) wr (zaa Hr2) (zaa Hl1) (zaa Hl2)).mono ?_;rintro e w2 ⟨rfl,hb2⟩))
   refine ⟨⟨k+1,by omega,by simp,by rw [zaa Hsu],(zaa HBr).trans (hb2.mono (zaa HBr).size)⟩,by simp [intOf];omega⟩
  ·have hke:k=na:=by omega
   subst hke
   go_wp2
   go_ret
   exact ⟨rfl,(zaa Hb1).trans (hB.mono (zaa Hb1).size)⟩
structure Src where
 rs:List (List REnt)
 c:Nat
def updN {α:Type} (f:Nat→α) (a:Nat) (x:α):Nat→α:=fun i=>if i=a then x else f i
theorem zcf {α:Type} (f:Nat→α) (a:Nat) (x:α):updN f a x a=x:=by simp [updN]
theorem zdk {α:Type} (f:Nat→α) {a i:Nat} (x:α) (h:i≠a):updN f a x i=f i:=by simp [updN,h]
def LexN:Nat→Nat→List REnt→Prop
 | 0,_,_=>True
 | n+1,c,r=>zbc c r∧∀ z,LexN n (c+1) (segL c z r)
structure zb7 (n:Nat) (s:Src):Prop where
 cols:s.c+n≤3
 lex:∀ r∈s.rs,LexN n s.c r
 full:∀ r∈s.rs,r≠[]
 len:∀ r∈s.rs,r.length≤1000000000000
 cnt:s.rs.length≤100000000
def nar1 (z:Int) (s:Src):Src:=⟨zcp s.c z s.rs,s.c+1⟩
def narK (z:Int):Nat→Src→Src
 | 0,s=>s
 | k+1,s=>nar1 z (narK z k s)
theorem zif {c:Nat} {z:Int} {rs:List (List REnt)} {r:List REnt} (h:r∈zcp c z rs):r≠[]∧∃ r0∈rs,r=segL c z r0:=by
 unfold zcp at h
 rw [List.mem_filter,List.mem_map] at h
 obtain ⟨⟨r0,h0,rfl⟩,h2⟩:=h
 refine ⟨fun e=>?_,r0,h0,rfl⟩
 rw [e] at h2
 simp at h2
theorem segL_len (c:Nat) (z:Int) (r:List REnt):(segL c z r).length≤r.length:=by
 unfold segL znm zet
 rw [List.length_take,List.length_drop]
 omega
theorem zt6 (c:Nat) (z:Int) (rs:List (List REnt)):(zcp c z rs).length≤rs.length:=by
 unfold zcp
 refine Nat.le_trans (List.length_filter_le _ _) (by simp)
theorem zb7.nar1 {n:Nat} {s:Src} (h:zb7 (n+1) s) (z:Int):zb7 n (nar1 z s) where
 cols:=by have:=h.cols;show s.c+1+n≤3;omega
 lex:=fun r hr=>by
  obtain ⟨_,r0,h0,rfl⟩:=zif hr
  exact (h.lex r0 h0).2 z
 full:=fun r hr=>(zif hr).1
 len:=fun r hr=>by
  obtain ⟨_,r0,h0,rfl⟩:=zif hr
  exact Nat.le_trans (segL_len _ _ _) (h.len r0 h0)
 cnt:=Nat.le_trans (zt6 _ _ _) h.cnt
theorem zb7.narK {n:Nat} {s:Src} (z:Int):∀ (k:Nat),zb7 (n+k) s→zb7 n (narK z k s)
 | 0,h=>h
 | k+1,h=>by
  have h':zb7 (n+1+k) s:=by rw [show n+1+k=n+(k+1) by omega];exact h
  exact zb7.nar1 (zb7.narK z k h') z
theorem zb7.down {n m:Nat} {s:Src} (h:zb7 n s) (hm:m≤n):zb7 m s where
 cols:=by have:=h.cols;omega
 lex:=fun r hr=>by
  have key:∀ (m n c:Nat) (r:List REnt),m≤n→LexN n c r→LexN m c r:=by
   intro m
   induction m with
   | zero=>intro n c r _ _;trivial
   | succ m ih =>
    intro n c r hmn hl
    match n,hmn,hl with
    | n+1,hmn,hl=>exact ⟨hl.1,fun z=>ih n (c+1) _ (by omega) (hl.2 z)⟩
  exact key m n _ r hm (h.lex r hr)
 full:=h.full
 len:=h.len
 cnt:=h.cnt
structure zdr (w:World) (B:Nat) (sv:Nat→SV) (S:Nat→Src):Prop where
 blk:w.heap[B]? = some (.cells (zaf sv (fun i=>((S i).c:Int))) 192 (0,0))
 runs:∀ i,i<4→zau w (sv i).val (S i).rs
 off:∀ i,i<4→(S i).rs≠[]→(sv i).val.ownBlock≠some B∧(sv i).val.ownBlock≠some (B+1)
 full:∀ i,i<4→∀ r∈(S i).rs,r≠[]
theorem zuq (sv:Nat→SV) (cs:Nat→Int) (o:Nat):((zaf sv cs)[o]? = none)∨((zaf sv cs)[o]? = some (.slice (sv (o / 2)).a (sv (o / 2)).n (sv (o / 2)).cap)∧o % 2=0)∨((zaf sv cs)[o]? = some (.int .i64 (cs (o / 2)))∧o % 2=1):=by
 match o with
 | 0=>exact .inr (.inl ⟨rfl,rfl⟩)
 | 1=>exact .inr (.inr ⟨rfl,rfl⟩)
 | 2=>exact .inr (.inl ⟨rfl,rfl⟩)
 | 3=>exact .inr (.inr ⟨rfl,rfl⟩)
 | 4=>exact .inr (.inl ⟨rfl,rfl⟩)
 | 5=>exact .inr (.inr ⟨rfl,rfl⟩)
 | 6=>exact .inr (.inl ⟨rfl,rfl⟩)
 | 7=>exact .inr (.inr ⟨rfl,rfl⟩)
 | n+8=>exact .inl (by simp [zaf])
theorem run_off {w:World} {B b o n cp:Nat} {es:List REnt} {sv:Nat→SV} {cs:Nat→Int} {t:TypeId} (hB:w.heap[B]? = some (.cells (zaf sv cs) t (0,0))) (h:zbq w (.slice (some ⟨b,o,none⟩) n cp) es) (he:es≠[]):b≠B:=by
 rintro rfl
 obtain ⟨a',cap',e,_,hx⟩:=h
 injection e with e1 e2 e3
 subst e1
 have hl:0<es.length:=List.length_pos_iff.2 he
 obtain ⟨b',o',e4,h0,h1,_,_⟩:=hx 0 hl
 injection e4 with e4
 injection e4 with e5 e6
 subst e5 e6
 rw [zab hB] at h0 h1
 simp only [Nat.zero_mul,Nat.add_zero] at h0 h1
 rcases zuq sv cs o with h|⟨h,h'⟩|⟨h,h'⟩
 ·rw [h] at h0;cases h0
 ·rw [h] at h0;cases h0
 ·rcases zuq sv cs (o+1) with g|⟨g,g'⟩|⟨g,g'⟩
  ·rw [g] at h1;cases h1
  ·rw [g] at h1;cases h1
  ·omega
theorem zau.aside {w w':World} {B:Nat} {v:Value} {rs:List (List REnt)} {sv:Nat→SV} {cs:Nat→Int} {t:TypeId} (h:zau w v rs) (hB:w.heap[B]? = some (.cells (zaf sv cs) t (0,0))) (hf:∀ r∈rs,r≠[]) (ho:rs≠[]→v.ownBlock≠some B)
  (hk:∀ q,q≠B→w'.heap[q]? = w.heap[q]?):zau w' v rs:=by
 obtain ⟨a,cap,rfl,hx⟩:=h
 refine ⟨a,cap,rfl,fun i hi=>?_⟩
 obtain ⟨g,q,b,o,cp,rfl,d0,hr⟩:=hx i hi
 have hne:rs≠[]:=by rintro rfl;simp at hi
 have hg:g≠B:=fun e=>ho hne (by rw [e];rfl)
 have hmem:rs[i]?.getD []∈rs:=by simp [hi]
 have hb:=run_off hB hr (hf _ hmem)
 exact ⟨g,q,b,o,cp,rfl,(World.cell?_of_block (w:=w) (a:=⟨g,q+i,none⟩) (hk g hg)).trans d0,hr.back ((hk b hb).symm)⟩
theorem zdj {w:World} {b:Nat} {cs:Array Value} {t:TypeId} (off:Nat) (v:Value) (h:w.heap[b]? = some (.cells cs t (0,0))):(w.setCell ⟨b,off,none⟩ v).heap[b]? = some (.cells (cs.setIfInBounds off v) t (0,0)):=by
 simp only [World.setCell]
 rw [Array.getElem?_modify,if_pos rfl,h]
 rfl
theorem src_set {w:World} {B:Nat} {sv:Nat→SV} {cs:Nat→Int} {t:TypeId} (h:w.heap[B]? = some (.cells (zaf sv cs) t (0,0))) {a:Nat} (ha:a<4) (s:SV) (c:Int) :
  ((w.setCell ⟨B,a*2,none⟩ s.val).setCell ⟨B,a*2+1,none⟩ (.int .i64 c)).heap[B]? = some (.cells (zaf (updN sv a s) (updN cs a c)) t (0,0)):=by
 rw [zdj _ _ (zdj _ _ h)]
 match a,ha with
 | 0,_=>rfl
 | 1,_=>rfl
 | 2,_=>rfl
 | 3,_=>rfl
theorem zdr.put {w:World} {B:Nat} {sv:Nat→SV} {S:Nat→Src} (h:zdr w B sv S) {a:Nat} (ha:a<4) (s:SV) (t:Src) (hr:zau w s.val t.rs) (ho:t.rs≠[]→s.val.ownBlock≠some B∧s.val.ownBlock≠some (B+1)) (hf:∀ r∈t.rs,r≠[]) :
  zdr ((w.setCell ⟨B,a*2,none⟩ s.val).setCell ⟨B,a*2+1,none⟩ (.int .i64 t.c)) B (updN sv a s) (updN S a t):=by
 have hk:∀ q,q≠B→((w.setCell ⟨B,a*2,none⟩ s.val).setCell ⟨B,a*2+1,none⟩ (.int .i64 t.c)).heap[q]? = w.heap[q]?:=fun q hq =>
  (Below.heap_setCell _ _ _ q (fun e=>hq e)).trans (Below.heap_setCell _ _ _ q (fun e=>hq e))
 refine ⟨?_,fun i hi=>?_,fun i hi=>?_,fun i hi=>?_⟩
 ·rw [src_set h.blk ha s t.c]
  have:(updN (fun i=>((S i).c:Int)) a (t.c:Int))=fun i=>((updN S a t i).c:Int):=by
   funext i
   unfold updN
   split <;> rfl
  rw [this]
 ·by_cases e:i=a
  ·subst e
   rw [zcf,zcf]
   exact hr.aside h.blk hf (fun e=>(ho e).1) hk
  ·rw [zdk _ _ e,zdk _ _ e]
   exact (h.runs i hi).aside h.blk (h.full i hi) (fun e=>(h.off i hi e).1) hk
 ·by_cases e:i=a
  ·subst e
   rw [zcf,zcf]
   exact ho
  ·rw [zdk _ _ e,zdk _ _ e]
   exact h.off i hi
 ·by_cases e:i=a
  ·subst e
   rw [zcf]
   exact hf
  ·rw [zdk _ _ e]
   exact h.full i hi
theorem zdr.below {w w':World} {B:Nat} {sv:Nat→SV} {S:Nat→Src} (h:zdr w B sv S) (hb:Below w.heap.size w w'):zdr w' B sv S:=
 ⟨(hb.block B (Array.getElem?_eq_some_iff.1 h.blk).1).trans h.blk,fun i hi=>(h.runs i hi).below hb,h.off,h.full⟩
theorem zs1 {α:Type} (f:Nat→α) (a:Nat):updN f a (f a)=f:=by
 funext i
 unfold updN
 split
 ·rename_i e;rw [e]
 ·rfl
theorem zrd {α:Type} (f:Nat→α) (a:Nat) (x y:α):updN (updN f a x) a y=updN f a y:=by
 funext i
 unfold updN
 split <;> rfl
theorem zbk {n:Nat} {V w:World} (h:Below n V w) {b:Nat} (hb:n≤b) (o:Nat) (v:Value):Below n V (w.setCell ⟨b,o,none⟩ v):=
 h.trans ⟨rfl,rfl,rfl,by simp [World.setCell],fun k hk=>Below.heap_setCell _ _ _ k (by dsimp only;omega)⟩
end Go.Proofs.YtoifcnidhfnapaaGreatDoor
