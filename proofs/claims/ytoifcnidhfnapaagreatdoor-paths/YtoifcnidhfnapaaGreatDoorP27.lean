import Derived.Test.YtoifcnidhfnapaaGreatDoorP26
import Derived.Test.YtoifcnidhfnapaaGreatDoorP21
set_option linter.unusedVariables false
set_option linter.unusedSimpArgs false
namespace Go.Proofs.YtoifcnidhfnapaaGreatDoor
open Go.RowKit Go.Maps Go.Sort Go.Shelf
structure zk6 (rs:List (List REnt)):Prop where
 full:∀ r∈rs,r≠[]
 rise:∀ r∈rs,zgg r
 wf:∀ r∈rs,∀ e∈r,zav e.1
def totL (rs:List (List REnt)):Nat:=(rs.map List.length).sum
theorem zm4 (a b:List (List REnt)):totL (a ++ b)=totL a+totL b:=by simp [totL]
theorem znk (rs:List (List REnt)) (k:Nat) (hk:k<rs.length):totL (rs.take (k+1))=totL (rs.take k)+(rs[k]?.getD []).length:=by
 rw [List.take_succ_eq_append_getElem hk,zm4]
 simp [totL,hk]
theorem zni (rs:List (List REnt)) (k:Nat) (hk:k<rs.length):(rs.take (k+1)).flatten=(rs.take k).flatten ++ (rs[k]?.getD []):=by
 rw [List.take_succ_eq_append_getElem hk,List.flatten_append]
 simp [hk]
theorem zld (rs:List (List REnt)) (h:∀ r∈rs,r≠[]):rs.length≤totL rs:=by
 induction rs with
 | nil=>simp
 | cons r rs ih =>
  have h1:0<r.length:=List.length_pos_iff.2 (h r (by simp))
  have h2:=ih (fun r hr=>h r (by simp [hr]))
  simp only [totL,List.map_cons,List.sum_cons,List.length_cons] at *
  omega
theorem zp9 (rs:List (List REnt)):∀ r∈rs,r.length≤totL rs:=by
 induction rs with
 | nil=>simp
 | cons r rs ih =>
  intro q hq
  simp only [totL,List.map_cons,List.sum_cons] at *
  rcases List.mem_cons.1 hq with rfl|hq
  ·omega
  ·have:=ih q hq;omega
structure IdxO (w:World) (XB:Nat) (x0 x1 x2 rv:Value) (rs:List (List REnt)) (es:List REnt):Prop where
 blk:∃ bv,w.heap[XB]? = some (.cells #[x0,x1,x2,rv,bv] 144 (0,0))∧zb9 w bv es
 own:∃ vals,w.ownsRow 0 141 1 rv vals.length vals∧zh1 w vals rs
theorem zb9.runN {W:World} {v:Value} {es:List REnt} (h:zb9 W v es):RunN W v es:=by
 rcases h with ⟨rfl,rfl⟩|⟨b,o,cp,rfl,h⟩
 ·exact ⟨none,0,rfl,⟨none,0,rfl,Nat.le_refl _,fun i hi=>by simp at hi⟩,fun _=>rfl⟩
 ·exact ⟨some ⟨b,o,none⟩,cp,rfl,h,fun e=>by cases e⟩
theorem IdxO.idxAt {w:World} {XB:Nat} {x0 x1 x2 rv:Value} {rs:List (List REnt)} {es:List REnt} (h:IdxO w XB x0 x1 x2 rv rs es) (hf:∀ r∈rs,r≠[]) (ht:totL rs+es.length≤100000000):zne w XB rs es:=by
 obtain ⟨bv,h1,h2⟩:=h.blk
 obtain ⟨vals,h3,h4⟩:=h.own
 exact ⟨⟨x0,x1,x2,rv,bv,h1,h4.runsAt h3,h2⟩,hf,fun r hr=>by have:=zp9 rs r hr;omega,by have:=zld rs hf;omega,by omega⟩
theorem IdxO.notE {w:World} {XB:Nat} {x0 x1 x2 rv:Value} {rs:List (List REnt)} {es:List REnt} (h:IdxO w XB x0 x1 x2 rv rs es):∀ k,IdxX XB rv k→¬ zcy w k:=by
 obtain ⟨bv,h1,h2⟩:=h.blk
 obtain ⟨vals,h3,h4⟩:=h.own
 exact zlf h1 h3
structure SetI (W:World) (XB:Nat) (x0 x1 x2 rv:Value) (rs:List (List REnt)) (es:List REnt) (k:Nat) (av:Value) (wr:World):Prop where
 le:k≤rs.length
 st:∃ rk ad vals,wr.heap[XB]? = some (.cells #[x0,x1,x2,rk,.slice none 0 0] 144 (0,0))∧wr.ownsRow 0 141 1 rk vals.length vals∧zh1 wr vals (rs.take k)∧rk.ownBlock=rv.ownBlock ∧
  RunN wr av ad∧Eqv ((rs.take k).flatten ++ ad) (rs.flatten ++ es)∧zgg ad∧(∀ e∈ad,zav e.1)∧totL (rs.take k)+ad.length≤totL rs+es.length
 keep:KeepX (IdxX XB rv) W wr
theorem zh1.take {w:World} {vals:List Value} {rs:List (List REnt)} (h:zh1 w vals rs) (k:Nat):zh1 w (vals.take k) (rs.take k):=by
 refine ⟨by simp [h.len],fun i hi=>?_⟩
 rw [List.length_take,Nat.lt_min] at hi
 obtain ⟨b,o,cp,h1,h2⟩:=h.at_ i hi.2
 have e:(rs.take k)[i]?.getD []=rs[i]?.getD []:=by rw [List.getElem?_take_of_lt hi.1]
 rw [e]
 exact ⟨b,o,cp,by rw [List.getElem?_take_of_lt hi.1];exact h1,h2⟩
theorem zh1.snoc {w:World} {vals:List Value} {rs:List (List REnt)} (h:zh1 w vals rs) {r:List REnt} {b o cp:Nat} (hr:zbq w (.slice (some ⟨b,o,none⟩) r.length cp) r):zh1 w (vals ++ [.slice (some ⟨b,o,none⟩) r.length cp]) (rs ++ [r]):=by
 refine ⟨by simp [h.len],fun i hi=>?_⟩
 by_cases hlt:i<rs.length
 ·obtain ⟨b',o',cp',h1,h2⟩:=h.at_ i hlt
  have e:(rs ++ [r])[i]?.getD []=rs[i]?.getD []:=by rw [List.getElem?_append_left hlt]
  rw [e]
  exact ⟨b',o',cp',by rw [List.getElem?_append_left (by rw [h.len];exact hlt)];exact h1,h2⟩
 ·have hi':i=rs.length:=by simp at hi;omega
  subst hi'
  have e:(rs ++ [r])[rs.length]?.getD []=r:=by simp
  rw [e]
  exact ⟨b,o,cp,by rw [← h.len];simp,hr⟩
theorem ya9 {W:World} {rk:Value} {vals:List Value} {k:Nat} (h:W.ownsRow 0 141 1 rk (k+1) vals):∃ g cap,rk=.slice (some ⟨g,0,none⟩) (k+1) cap∧∀ j,j<k+1→W.cell? ⟨g,j,none⟩=vals[j]?:=by
 obtain ⟨p,c,rfl,_,hn,hs⟩:=zaj h
 cases p with
 | none=>have:=(hn rfl).1;omega
 | some ad =>
  obtain ⟨g,rfl,_,_,hc⟩:=hs ad rfl
  exact ⟨g,c,rfl,fun j hj=>hc j (by omega)⟩
set_option maxRecDepth 100000 in
set_option maxHeartbeats 4000000 in
theorem zop (XB:Nat) (x0 x1 x2 rv:Value) (rs:List (List REnt)) (es:List REnt) (W:World) (hX:IdxO W XB x0 x1 x2 rv rs es) (hG:zk6 rs) (hes:zgg es) (hwe:∀ e∈es,zav e.1) (ht:totL rs+es.length≤100000000) :
  Calls Tryz.prog 123 #[.pointer (some ⟨XB,0,none⟩)] W fun e w'=>e=.returned (.tuple #[])∧∃ rv' rs',IdxO w' XB x0 x1 x2 rv' rs' []∧zk6 rs'∧Eqv rs'.flatten (rs.flatten ++ es)∧totL rs'≤totL rs+es.length∧KeepX (IdxX XB rv) W w'∧(∀ g,rv'.ownBlock=some g→rv.ownBlock=some g∨W.heap.size≤g):=by
 obtain ⟨bv,hB,hbat⟩:=hX.blk
 obtain ⟨vals,hown,hruns⟩:=hX.own
 have hnE:=hX.notE
 have hrn:=hbat.runN
 obtain ⟨ba,bcap,rfl,hr1,hr2⟩:=id hrn
 have hBl:XB<W.heap.size:=(Array.getElem?_eq_some_iff.1 hB).1
 have c4:W.cell? ⟨XB,4,none⟩=some (.slice ba es.length bcap):=zab hB 4
 have f4:W.frozen? ⟨XB,4,none⟩=false:=zac hB 4
 obtain ⟨ra,rcap,rfl,hrc,_⟩:=zaj hown
 obtain ⟨W1,hW1⟩:∃ W1,W1=W.setCell ⟨XB,4,none⟩ (.slice none 0 0):=⟨_,rfl⟩
 have hB1:W1.heap[XB]? = some (.cells #[x0,x1,x2,.slice ra vals.length rcap,.slice none 0 0] 144 (0,0)):=by rw [hW1];exact zh7 hB
 have hk1:KeepX (IdxX XB (.slice ra vals.length rcap)) W W1:=by
  have hC:=zag W XB 4 (.slice none 0 0)
  rw [hW1]
  exact ⟨hC.os,hC.tape,hC.output,hC.size,fun q hq hx=>hC.block q hq (fun e=>hx (.inl (by injection e)))⟩
 have hown1:W1.ownsRow 0 141 1 (.slice ra vals.length rcap) vals.length vals:=by
  rw [hW1];exact hown.kept (zag W XB 4 _) (.inr (zjx hown hB))
 have hI0:SetI W XB x0 x1 x2 (.slice ra vals.length rcap) rs es rs.length (.slice ba es.length bcap) W1:=by
  refine ⟨Nat.le_refl _,⟨_,es,vals,hB1,hown1,?_,rfl,hrn.keepT hk1 hnE,?_,hes,hwe,?_⟩,hk1⟩
  ·rw [List.take_length];exact hruns.keepT hk1 hnE
  ·rw [List.take_length];exact Eqv.refl _
  ·rw [List.take_length];omega
 have c3:W1.cell? ⟨XB,3,none⟩=some (.slice ra vals.length rcap):=zab hB1 3
 have hvl:vals.length=rs.length:=hruns.len
 have hrl:rs.length≤100000000:=by have:=zld rs hG.full;omega
 have HI0:=hide hI0
 have HG:=hide hG
 have HnE:=hide hnE
 have Hbl:=hide hBl
 have cW3:W.cell? ⟨XB,3,none⟩=some (.slice ra vals.length rcap):=zab hB 3
 rw [hW1] at c3
 clear hB hbat hown hruns hnE hrn hr1 hr2 hX hI0 hG hB1 hk1 hown1
 go_enter Tryz.func123,Tryz.ntmps123
 go_wp2
 rw [← hW1]
 clear hW1 c4 f4 c3 cW3
 try go_wp2
 go_loopw [2,3] (fun av i wr=>∃ k:Nat,i=.int .i64 ((k:Int) - 1)∧SetI W XB x0 x1 x2 (.slice ra vals.length rcap) rs es k av wr) (fun _ i _=>(intOf i+1).toNat)
 case atStart=>exact ⟨rs.length,by first|rfl|rw [hvl],zaa HI0⟩
 case round =>
  obtain ⟨k,rfl,hI⟩:=hrel
  have Hend:Hid (∀ (wr:World) (av:Value),SetI W XB x0 x1 x2 (.slice ra vals.length rcap) rs es k av wr→∃ aa an acap,av=.slice aa an acap∧Calls Tryz.prog 72 #[.pointer (some ⟨XB,0,none⟩),.slice aa an acap] wr fun e w'=>e=.returned (.tuple #[])∧∃ rv' rs',IdxO w' XB x0 x1 x2 rv' rs' []∧zk6 rs'∧Eqv rs'.flatten (rs.flatten ++ es)∧totL rs'≤totL rs+es.length∧KeepX (IdxX XB (.slice ra vals.length rcap)) W w'∧(∀ g,rv'.ownBlock=some g→(Value.slice ra vals.length rcap).ownBlock=some g∨W.heap.size≤g)):=by
   intro wr av hI
   obtain ⟨hle,⟨rk,ad,vk,hBk,hok,hrk,hbk,hav,heq,hri,hwf,htt⟩,hK⟩:=hI
   obtain ⟨aa,acap,rfl,ha1,ha2⟩:=id hav
   have hvk:vk.length=k:=by rw [hrk.len,List.length_take];omega
   refine ⟨aa,ad.length,acap,rfl,(iadd_any XB x0 x1 x2 rk (.slice none 0 0) vk aa ad.length acap wr hBk hok (by omega) (by omega)).mono ?_⟩
   rintro e w' ⟨rfl,rv',h1,h2,h3,h4⟩
   have hnE:=zlf hBk hok
   have hKX:∀ q,IdxX XB rk q→IdxX XB (.slice ra vals.length rcap) q:=fun q hq=>hq.imp id (fun h=>hbk ▸ h)
   have hK':=hK.trans (h3.mono fun q _ hq=>hKX q hq)
   have hr':=hrk.keepT h3 hnE
   have hg':∀ g,rv'.ownBlock=some g→(Value.slice ra vals.length rcap).ownBlock=some g∨W.heap.size≤g:=fun g hg=>by
    rcases h4 g hg with h|h
    ·exact .inl (hbk ▸ h)
    ·exact .inr (Nat.le_trans hK.size h)
   by_cases hz:ad=[]
   ·subst hz
    refine ⟨rfl,rv',rs.take k,⟨⟨_,h1,.inl ⟨rfl,rfl⟩⟩,vk,by simpa [addV] using h2,hr'⟩,?_,by simpa using heq,by simpa using htt,hK',hg'⟩
    have hG:=zaa HG
    exact ⟨fun r hr=>hG.full r (List.mem_of_mem_take hr),fun r hr=>hG.rise r (List.mem_of_mem_take hr),fun r hr=>hG.wf r (List.mem_of_mem_take hr)⟩
   ·have hn0:ad.length≠0:=fun h=>hz (List.eq_nil_of_length_eq_zero h)
    obtain ⟨b,o,rfl⟩:∃ b o,aa=some ⟨b,o,none⟩:=by
     obtain ⟨a',cap',e',_,hx⟩:=ha1
     injection e' with e1 e2 e3
     obtain ⟨b,o,e'',_⟩:=hx 0 (by omega)
     exact ⟨b,o,e1.trans e''⟩
    have hra:=ha1.keepT h3 hnE
    refine ⟨rfl,rv',rs.take k ++ [ad],⟨⟨_,h1,.inl ⟨rfl,rfl⟩⟩,_,by simpa [addV,hn0] using h2,hr'.snoc hra⟩,?_,?_,?_,hK',hg'⟩
    ·have hG:=zaa HG
     refine ⟨fun r hr=>?_,fun r hr=>?_,fun r hr=>?_⟩ <;> rcases List.mem_append.1 hr with hr|hr
     ·exact hG.full r (List.mem_of_mem_take hr)
     ·simp at hr;subst hr;exact hz
     ·exact hG.rise r (List.mem_of_mem_take hr)
     ·simp at hr;subst hr;exact hri
     ·exact hG.wf r (List.mem_of_mem_take hr)
     ·simp at hr;subst hr;exact hwf
    ·simpa using heq
    ·rw [zm4];simpa [totL] using htt
  cases k with
  | zero =>
   have hm1:¬ (0:Int)≤((0:Nat):Int) - 1:=by omega
   obtain ⟨aa,an,acap,rfl,hcall⟩:=(zaa Hend) wr _ hI
   have Hcall:=hide hcall
   clear hI hcall Hend
   go_wp2_with fail
   refine (zaa Hcall).mono ?_
   rintro e w' ⟨rfl,hpost⟩
   have Hp:=hide hpost
   clear hpost
   go_wp2
   go_end0
   exact ⟨rfl,zaa Hp⟩
  | succ k =>
   have hke:(((k+1:Nat):Int) - 1)=(k:Int):=by omega
   rw [hke]
   obtain ⟨hle,⟨rk,ad,vk,hBk,hok,hrk,hbk,hav,heq,hri,hwf,htt⟩,hK⟩:=id hI
   have hvk:vk.length=k+1:=by rw [hrk.len,List.length_take];omega
   rw [hvk] at hok
   obtain ⟨g,cap,rfl,hcell⟩:=ya9 hok
   have hkl:k<rs.length:=by omega
   obtain ⟨b,o,cp,hv,hr⟩:=hrk.at_ k (by rw [List.length_take];omega)
   have er:(rs.take (k+1))[k]?.getD []=rs[k]?.getD []:=by rw [List.getElem?_take_of_lt (by omega)]
   rw [er] at hv hr
   have hmem:rs[k]?.getD []∈rs:=by simp [hkl]
   obtain ⟨r,hrr⟩:∃ r,r=rs[k]?.getD []:=⟨_,rfl⟩
   have etot:=znk rs k hkl
   have eflat:=zni rs k hkl
   rw [← hrr] at hv hr hmem etot eflat
   have hrE:=(zaa HG).rise r hmem
   have hrW:=(zaa HG).wf r hmem
   obtain ⟨aa,acap,rfl,ha1,ha2⟩:=id hav
   have c3:wr.cell? ⟨XB,3,none⟩=some (.slice (some ⟨g,0,none⟩) (k+1) cap):=zab hBk 3
   have cg:wr.cell? ⟨g,k,none⟩=some (.slice (some ⟨b,o,none⟩) r.length cp):=(hcell k (by omega)).trans hv
   have hkx:(k:Int)<(k:Int)+1:=by omega
   have hadl:ad.length≤100000000:=by omega
   have hrl2:r.length≤100000000:=by omega
   by_cases hcond:r.length≤2*ad.length
   ·have hcx:(r.length:Int)≤2*(ad.length:Int):=by omega
    have hmrg:=zy2 (.slice (some ⟨b,o,none⟩) r.length cp) (.slice aa ad.length acap) r ad wr ⟨_,cp,rfl,hr,fun e=>by cases e⟩ hav (by omega)
    have Hmrg:=hide hmrg
    have HBk:=hide hBk
    have Hok:=hide hok
    have Hrk:=hide hrk
    have Hbk:=hide hbk
    have Heq:=hide heq
    have Htt:=hide htt
    have HK:=hide hK
    have Hri:=hide hri
    have Hwf:=hide hwf
    have Het:=hide etot
    have Hef:=hide eflat
    have HrE:=hide hrE
    have HrW:=hide hrW
    have Hv:=hide hvk
    have Hhe:=hide hle
    clear hmrg hBk hok hrk hbk heq htt hK hri hwf etot eflat hrE hrW hI hcell hv hr hav ha1 ha2 Hend hmem hrr er hvk hle
    go_wp2_with fail
    refine (zaa Hmrg).mono ?_
    rintro e w5 ⟨mv,rfl,hmv,hb5,hob5⟩
    obtain ⟨ma,mcap,rfl,hm1,hm2⟩:=id hmv
    have hB5:=(hb5.block XB (Array.getElem?_eq_some_iff.1 (zaa HBk)).1).trans (zaa HBk)
    have c35:w5.cell? ⟨XB,3,none⟩=some (.slice (some ⟨g,0,none⟩) (k+1) cap):=zab hB5 3
    have hok5:w5.ownsRow 0 141 1 (.slice (some ⟨g,0,none⟩) (k+1) cap) (k+1) vk:=(zaa Hok).kept (row:=none) ⟨hb5.os,hb5.tape,hb5.output,hb5.size,fun q hq _=>hb5.block q hq⟩ (.inr (by simp [Value.ownBlock]))
    have hdel:=sdel_any g k cap vk w5 hok5
    have hne5:=zjx hok5 hB5
    have hnE5:=zlf hB5 hok5
    have Hdel:=hide hdel
    have HB5:=hide hB5
    have Hb5:=hide hb5
    have Hmv:=hide hmv
    have Hne5:=hide hne5
    have HnE5:=hide hnE5
    clear hdel hB5 hok5 hb5 hmv hm1 hm2 hob5 hne5 hnE5 c3 cg
    go_wp2_with fail
    refine (zaa Hdel).mono ?_
    rintro e w6 ⟨rfl,hown6,hk6⟩
    have hB6:=(hk6.blk XB (Array.getElem?_eq_some_iff.1 (zaa HB5)).1 (fun e=>(zaa Hne5) (by rw [e];rfl))).trans (zaa HB5)
    have c36:w6.cell? ⟨XB,3,none⟩=some (.slice (some ⟨g,0,none⟩) (k+1) cap):=zab hB6 3
    have f36:w6.frozen? ⟨XB,3,none⟩=false:=zac hB6 3
    have Hown6:=hide hown6
    have Hk6:=hide hk6
    have HB6:=hide hB6
    clear hown6 hk6 hB6 c35
    go_wp2
    refine ⟨⟨k,by simp,?_⟩,by simp [intOf]⟩
    have hC:=zag w6 XB 3 (.slice (some ⟨g,0,none⟩) k cap)
    have hKa:KeepX (IdxX XB (.slice (some ⟨g,0,none⟩) (k+1) cap)) w5 (w6.setCell ⟨XB,3,none⟩ (.slice (some ⟨g,0,none⟩) k cap)):=by
     refine ((zaa Hk6).mono fun q _ hq=>.inr (by rw [hq];rfl)).trans ⟨hC.os,hC.tape,hC.output,hC.size,fun q hq hx=>hC.block q hq (fun e=>hx (.inl (by injection e)))⟩
    have hKb:KeepX (IdxX XB (.slice (some ⟨g,0,none⟩) (k+1) cap)) wr (w6.setCell ⟨XB,3,none⟩ (.slice (some ⟨g,0,none⟩) k cap)):=(KeepX.ofBelow (zaa Hb5)).trans hKa
    have hnEr:=zlf (zaa HBk) (zaa Hok)
    refine ⟨by have:=zaa Hhe;omega,⟨.slice (some ⟨g,0,none⟩) k cap,zcd r ad,vk.take k,zjd (zaa HB6),?_,?_,zaa Hbk,(zaa Hmv).keepT hKa (zaa HnE5),?_,zuh _ _ (zaa HrE) (zaa Hri),zzt _ _ (zaa HrW) (zaa Hwf),?_⟩,(zaa HK).trans (hKb.mono fun q _ hq=>hq.imp id (fun h=>zaa Hbk ▸ h))⟩
    ·have hl:(vk.take k).length=k:=by rw [List.length_take,zaa Hv];omega
     rw [hl]
     exact (zaa Hown6).kept hC (.inr (zjx (zaa Hown6) (zaa HB6)))
    ·have h1:=((zaa Hrk).take k).keepT hKb hnEr
     rwa [List.take_take,Nat.min_eq_left (by omega)] at h1
    ·refine Eqv.trans ?_ (zaa Heq)
     rw [zaa Hef,List.append_assoc]
     exact Eqv.append (Eqv.refl _) (zx4 r ad)
    ·have h1:=zxy r ad
     have h2:=zaa Htt
     rw [zaa Het] at h2
     omega
   ·have hcx:¬ (r.length:Int)≤2*(ad.length:Int):=by omega
    obtain ⟨aa',an',acap',e1,hcall⟩:=(zaa Hend) wr _ hI
    injection e1 with e1 e2 e3
    subst e1 e2 e3
    have Hcall:=hide hcall
    clear hBk hok hrk hbk heq htt hK hri hwf etot eflat hrE hrW hI hcell hv hr hav ha1 ha2 Hend hmem hrr er hvk hle hcall
    go_wp2_with fail
    refine (zaa Hcall).mono ?_
    rintro e w' ⟨rfl,hpost⟩
    have Hp:=hide hpost
    clear hpost
    go_wp2
    go_end0
    exact ⟨rfl,zaa Hp⟩
theorem zta (w:World) (blk n:Nat) (d:Array REnt) (os:Array Obj):w.grownBy (sortWorldK entE 4 w blk 0 n d os) (some blk):=by
 refine ⟨rfl,rfl,rfl,by simp [sortWorldK,grow,putRowK,putRow,mapBlock,Sort.ahead],fun k hk hne=>?_⟩
 have hk':k≠blk:=fun e=>hne (by rw [e])
 simp only [sortWorldK,grow,putRowK,putRow,mapBlock,Sort.ahead]
 rw [Array.getElem?_append_left (by simpa using hk),Array.getElem?_modify,if_neg (fun e=>hk' e.symm)]
theorem zyt {w:World} {blk n:Nat} {d:Array REnt} {os:Array Obj} {cur:Array Value} {t:TypeId} (h:w.heap[blk]? = some (.cells cur t (0,0))):∃ cur',(sortWorldK entE 4 w blk 0 n d os).heap[blk]? = some (.cells cur' t (0,0)):=by
 have hl:=(Array.getElem?_eq_some_iff.1 h).1
 simp only [sortWorldK,grow,putRowK,putRow,mapBlock,Sort.ahead]
 rw [Array.getElem?_append_left (by simpa using hl),Array.getElem?_modify,if_pos rfl,h]
 exact ⟨_,rfl⟩
theorem zpt {w:World} {base g cap:Nat} {xs:List REnt} (h:w.ownsRow base 221 4 (.slice (some ⟨g,0,none⟩) xs.length cap) xs.length (zb2 xs)):HoldsK entE 4 w g 0 xs.toArray:=by
 intro j hj
 rw [size_flatK] at hj
 have hj':j<xs.length*4:=by simpa using hj
 rw [get_flatK _ _ _ _ hj,Nat.zero_add,h.cellAt j hj',h.frozenAt j]
 refine ⟨?_,rfl⟩
 have hd:j / 4<xs.length:=by omega
 have hm:j % 4<4:=Nat.mod_lt _ (by omega)
 have e:j=j / 4*4+j % 4:=by omega
 have:=zli xs (j / 4) (j % 4) hd hm
 rw [← e] at this
 rw [this]
 have e2:xs.toArray[j / 4]! = xs[j / 4]:=by simp [hd]
 have e3:xs[j / 4]?.getD zcg=xs[j / 4]:=by simp [hd]
 rw [e2,e3]
 have hl:j % 4<(entE xs[j / 4]).length:=by simp [entE];omega
 simp [hl]
theorem zns {w:World} {g cap:Nat} {d:Array REnt} (h:HoldsK entE 4 w g 0 d) (hE:zcy w g) (hc:d.size≤cap):zbq w (.slice (some ⟨g,0,none⟩) d.toList.length cap) d.toList:=by
 refine ⟨some ⟨g,0,none⟩,cap,by simp,by simpa using hc,fun i hi=>⟨g,0,rfl,?_⟩⟩
 have hi':i<d.size:=by simpa using hi
 have e:d.toList[i]?.getD zcg=d[i]!:=by simp [hi']
 rw [e]
 have h0:=(h.cell (i:=i) (c:=0) hi' (by omega)).1
 have h1:=(h.cell (i:=i) (c:=1) hi' (by omega)).1
 have h2:=(h.cell (i:=i) (c:=2) hi' (by omega)).1
 have h3:=(h.cell (i:=i) (c:=3) hi' (by omega)).1
 simp only [Nat.zero_add,Nat.add_zero] at h0 h1 h2 h3 ⊢
 exact ⟨h0,h1,h2,h3,hE⟩
theorem znl {d:Array REnt} (h:SortedIn (ltOf cmpE) 0 d.size d) (hp:d.toList.Pairwise (fun a b=>a.1≠b.1)):zgg d.toList:=by
 unfold zgg
 rw [List.pairwise_iff_getElem] at hp ⊢
 intro i j hi hj hij
 have h1:=h i j (Nat.zero_le _) hij (by simpa using hj)
 have h1':ltOf cmpR d[j]!.1 d[i]!.1=false:=h1
 rw [zch] at h1'
 have e1:d[i]! = d.toList[i]:=by simp at hi;simp [hi]
 have e2:d[j]! = d.toList[j]:=by simp at hj;simp [hj]
 rw [e1,e2] at h1'
 exact zi7 _ _ h1' (hp i j hi hj hij)
set_option maxRecDepth 100000 in
set_option maxHeartbeats 2000000 in
theorem ins0E (p:Option Addr) (cap:Nat) (fv:Value) (w:World):Calls Tryz.prog 269 #[.slice p 0 cap,.int .i64 0,.int .i64 0,fv] w fun e w'=>e=.returned (.tuple #[])∧w'=w:=by
 go_enter Tryz.func269,Tryz.ntmps269
 go_wp2
 refine wp_loop_rounds 1 ?_
 rw [rounds_succ]
 go_wp2
 go_end0
 exact ⟨rfl,rfl⟩
set_option maxRecDepth 100000 in
set_option maxHeartbeats 2000000 in
theorem pdq0E (p:Option Addr) (cap:Nat) (lim:Int) (fv:Value) (w:World):Calls Tryz.prog 248 #[.slice p 0 cap,.int .i64 0,.int .i64 0,.int .i64 lim,fv] w fun e w'=>e=.returned (.tuple #[])∧w'=w:=by
 go_enter Tryz.func248,Tryz.ntmps248
 go_wp2
 refine wp_loop_rounds 1 ?_
 rw [rounds_succ]
 go_wp2_with (go_at_call 269;refine (ins0E _ _ _ _).mono ?_;rintro e w' ⟨rfl,rfl⟩)
 (try simp only [Exit.inBlock,Exit.then])
 refine bodyPost_ret (results_none rfl _ _ _) rfl ?_
 exact ⟨rfl,rfl⟩
set_option maxHeartbeats 2000000 in
theorem zwo (p:Option Addr) (cap:Nat) (fv:Value) (w:World):Calls Tryz.prog 211 #[.slice p 0 cap,fv] w fun e w'=>e=.returned (.tuple #[])∧w'=w:=by
 go_enter Tryz.func211,Tryz.ntmps211
 go_wp2_with (first|(go_at_call 207;refine (zp4 _).mono ?_;rintro e w' ⟨rfl,rfl⟩)|(go_at_call 248;refine (pdq0E _ _ _ _ _).mono ?_;rintro e w' ⟨rfl,rfl⟩))
 go_end0
 exact ⟨rfl,rfl⟩
def arrE (c0 c1 c2:Nat) (x:Row×Int):REnt:=(arrR c0 c1 c2 x.1,x.2)
theorem sortRun (base:Nat) (v:Value) (ms:List REnt) (w:World) (h:w.ownsRow base 221 4 v ms.length (zb2 ms)) (hl:ms.length≤1000000000) :
  Calls Tryz.prog 211 #[v,.func (.func 125) #[] #[]] w fun e w'=>e=.returned (.tuple #[])∧∃ es,es.Perm ms∧(ms.Pairwise (fun a b=>a.1≠b.1)→zgg es)∧zb9 w' v es∧w.grownBy w' v.ownBlock:=by
 rcases h.2 with ⟨rfl,h0⟩|⟨g,cap,cur,rfl,hb,hg,hle,hm,hs,ht⟩
 ·have hx0:ms=[]:=List.eq_nil_of_length_eq_zero h0
  subst hx0
  refine (zwo none 0 _ w).mono ?_
  rintro e w' ⟨rfl,rfl⟩
  exact ⟨rfl,[],List.Perm.refl _,fun _=>List.Pairwise.nil,.inl ⟨rfl,rfl⟩,⟨rfl,rfl,rfl,Nat.le_refl _,fun _ _ _=>rfl⟩⟩
 ·have hH:=zpt h
  have hgl:g<w.heap.size:=(Array.getElem?_eq_some_iff.1 hg).1
  have hsf:=yat g cap ms.toArray w hH hgl (by simp;omega)
  have e0:(ms.toArray.size)=ms.length:=by simp
  rw [e0] at hsf
  refine hsf.mono ?_
  rintro e w' ⟨rfl,d',n,os,hp,hsrt,rfl⟩
  have hsz:d'.size=ms.length:=by have:=hp.1;simpa using this
  have hperm:d'.toList.Perm ms:=by
   have h:=hp.2.2
   have e1:(d'.extract 0 ms.length)=d':=by rw [Array.extract_eq_self_of_le (by omega)]
   have e2:(ms.toArray.extract 0 ms.length)=ms.toArray:=Array.extract_eq_self_of_le (by simp)
   rw [e1,e2] at h
   simpa using h
  have hHd:HoldsK entE 4 (sortWorldK entE 4 w g 0 n d' os) g 0 d':=holdsK_sortWorldK_c entE 4 w g 0 ms.toArray d' n os hH hgl (by simpa using hsz)
  obtain ⟨cur',hc'⟩:=zyt (n:=n) (d:=d') (os:=os) hg
  refine ⟨rfl,d'.toList,hperm,fun hd=>znl (by rw [hsz];exact hsrt) ((hperm.pairwise_iff (fun {a b} (h:a.1≠b.1)=>h.symm)).2 hd),.inr ⟨g,0,cap,by simp [hsz],?_⟩,zta w g n d' os⟩
  have:=zns (cap:=cap) hHd ⟨cur',hc'⟩ (by omega)
  simpa [hsz] using this
theorem apGrowE {w2:World} {base:Nat} {v:Value} {ms:List REnt} (e:REnt) (hrow:w2.ownsRow base 221 4 v ms.length (zb2 ms)) (hb:base≤w2.heap.size) (hl:ms.length≤1000000000) :
  ∃ g' cap' w3,(zig #[141,141] 141 #[v,.slice (some ⟨w2.heap.size,0,none⟩) 1 1]).run Tryz.prog (w2.alloc (.cells #[.int .i64 e.1.1,.int .i64 e.1.2.1,.int .i64 e.1.2.2,.int .i64 e.2] 221))=.ok (.slice (some ⟨g',0,none⟩) (ms.length+1) cap') w3 ∧
   w3.ownsRow base 221 4 (.slice (some ⟨g',0,none⟩) (ms.length+1) cap') (ms.length+1) (zb2 (ms ++ [e]))∧(w2.alloc (.cells #[.int .i64 e.1.1,.int .i64 e.1.2.1,.int .i64 e.1.2.2,.int .i64 e.2] 221)).grownBy w3 v.ownBlock:=by
 obtain ⟨i62,hi,hz0,hz1,hz2⟩:=info_parts Tryz.info221
 obtain ⟨v',w',hr,h2,h3,_⟩:=run_append_own_at (P:=Tryz.prog) (w2.alloc (.cells #[.int .i64 e.1.1,.int .i64 e.1.2.1,.int .i64 e.1.2.2,.int .i64 e.2] 221)) base 141 141 221 i62 _ 4 32 Tryz.underlying141 hi hz0 hz1 hz2 rfl (by decide) v ms.length (zb2 ms) (hrow.alloc _) ⟨w2.heap.size,0,none⟩ 1 1 (entE e) rfl (zhx w2 _ _ _ _ 221) (by simp [entE,Value.oneCell']) (by unfold maxLen;omega) (by omega) (by simp;omega)
 obtain ⟨g',cap',rfl⟩:=zfo h2
 refine ⟨g',cap',w',hr,?_,h3⟩
 have e1:zb2 (ms ++ [e])=zb2 ms ++ entE e:=by simp [zb2]
 rw [e1]
 exact h2
theorem zb9.keepT {X:Nat→Prop} {W W':World} {v:Value} {es:List REnt} (h:zb9 W v es) (hk:KeepX X W W') (hN:∀ k,X k→¬ zcy W k):zb9 W' v es:=by
 rcases h with h|⟨b,o,cp,h1,h2⟩
 ·exact .inl h
 ·exact .inr ⟨b,o,cp,h1,h2.keepT hk hN⟩
end Go.Proofs.YtoifcnidhfnapaaGreatDoor
