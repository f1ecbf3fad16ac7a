import Derived.Test.YtoifcnidhfnapaaGreatDoorP16
set_option linter.unusedVariables false
set_option linter.unusedSimpArgs false
namespace Go.Proofs.YtoifcnidhfnapaaGreatDoor
abbrev B64:=BitVec 64
def bsum {α:Type}:List α→(α→B64)→B64
 | [],_=>0#64
 | a :: l,f=>f a+bsum l f
theorem zat {α:Type} {l:List α} {f g:α→B64} (h:∀ a∈l,f a=g a):bsum l f=bsum l g:=by
 induction l with
 | nil=>rfl
 | cons a l ih=>simp only [bsum];rw [h a (by simp),ih fun b hb=>h b (by simp [hb])]
theorem zdb {α:Type} (l:List α):bsum l (fun _=>0#64)=0#64:=by
 induction l with
 | nil=>rfl
 | cons a l ih=>simp [bsum,ih]
theorem zle {α:Type} (l:List α) (f g:α→B64):bsum l (fun a=>f a+g a)=bsum l f+bsum l g:=by
 induction l with
 | nil=>simp [bsum]
 | cons a l ih=>simp only [bsum,ih];grind
theorem zvo {α:Type} (l:List α) (f:α→B64) (c:B64):bsum l (fun a=>f a*c)=bsum l f*c:=by
 induction l with
 | nil=>simp [bsum]
 | cons a l ih=>simp only [bsum,ih];grind
theorem za5 {α:Type} (l m:List α) (f:α→B64):bsum (l ++ m) f=bsum l f+bsum m f:=by
 induction l with
 | nil=>simp [bsum]
 | cons a l ih=>simp only [bsum,List.cons_append,ih];grind
theorem ziv {α:Type} (l:List α) (p:α→Bool) (f:α→B64):bsum (l.filter p) f=bsum l (fun a=>if p a then f a else 0#64):=by
 induction l with
 | nil=>rfl
 | cons a l ih =>
  rw [List.filter_cons]
  simp only [bsum]
  split
  ·simp only [bsum,ih]
  ·rw [ih];simp
theorem zek {α β:Type} (l:List α) (h:α→β) (f:β→B64):bsum (l.map h) f=bsum l (fun a=>f (h a)):=by
 induction l with
 | nil=>rfl
 | cons a l ih=>simp only [bsum,List.map_cons,ih]
theorem zzq {α β:Type} (l:List α) (m:List β) (f:α→β→B64):bsum l (fun a=>bsum m (f a))=bsum m (fun b=>bsum l (fun a=>f a b)):=by
 induction l with
 | nil=>simp only [bsum];exact (zdb m).symm
 | cons a l ih=>simp only [bsum,ih,← zle]
theorem zgl {α:Type} [DecidableEq α] (l:List α) (hn:l.Nodup) (x:α) (c:B64):bsum l (fun z=>if z=x then c else 0#64)=if x∈l then c else 0#64:=by
 induction l with
 | nil=>simp [bsum]
 | cons a l ih =>
  simp only [bsum]
  rw [List.nodup_cons] at hn
  rw [ih hn.2]
  by_cases h:a=x
  ·subst h
   simp [hn.1]
  ·have h2:x≠a:=fun e=>h e.symm
   simp [h,h2]
def updF {α:Type} (g:Nat→α) (n:Nat) (e:α):Nat→α:=fun i=>if i=n then e else g i
def tsum {α:Type} (d:α) (L:Nat→List α):Nat→((Nat→α)→B64)→B64
 | 0,f=>f (fun _=>d)
 | n+1,f=>bsum (L n) fun e=>tsum d L n (fun g=>f (updF g n e))
theorem zct {α:Type} (d:α) (L:Nat→List α):∀ (n:Nat) (f f':(Nat→α)→B64),(∀ g,(∀ i,i<n→g i∈L i)→f g=f' g)→tsum d L n f=tsum d L n f'
 | 0,f,f',h=>h _ fun i hi=>absurd hi (Nat.not_lt_zero _)
 | n+1,f,f',h=>by
  simp only [tsum]
  refine zat fun e he=>zct d L n _ _ fun g hg=>h _ fun i hi=>?_
  unfold updF
  split
  ·rename_i h;rw [h];exact he
  ·exact hg i (by omega)
theorem zjy {α:Type} (d:α) {L L':Nat→List α}:∀ (n:Nat) (f:(Nat→α)→B64),(∀ i,i<n→L i=L' i)→tsum d L n f=tsum d L' n f
 | 0,f,h=>rfl
 | n+1,f,h=>by
  simp only [tsum]
  rw [h n (by omega)]
  exact zat fun e _=>zjy d n _ fun i hi=>h i (by omega)
theorem zga {α:Type} (d:α) (L:Nat→List α):∀ (n:Nat),tsum d L n (fun _=>0#64)=0#64
 | 0=>rfl
 | n+1=>by
  simp only [tsum]
  rw [zat (g:=fun _=>0#64) fun e _=>zga d L n,zdb]
theorem zpx {α:Type} (d:α) (L:Nat→List α) (c:B64):∀ (n:Nat) (f:(Nat→α)→B64),tsum d L n (fun g=>f g*c)=tsum d L n f*c
 | 0,_=>rfl
 | n+1,f=>by
  simp only [tsum]
  rw [← zvo]
  exact zat fun e _=>zpx d L c n _
theorem zos {α:Type} (d:α) {L:Nat→List α} {i:Nat} (hL:L i=[]):∀ (n:Nat) (f:(Nat→α)→B64),i<n→tsum d L n f=0#64
 | 0,_,h=>absurd h (Nat.not_lt_zero _)
 | n+1,f,h=>by
  simp only [tsum]
  by_cases e:i=n
  ·subst e;rw [hL];rfl
  ·rw [zat (g:=fun _=>0#64) fun e _=>zos d hL n _ (by omega),zdb]
theorem zr7 {α β:Type} (d:α) (L:Nat→List α) (m:List β):∀ (n:Nat) (f:β→(Nat→α)→B64),bsum m (fun b=>tsum d L n (f b))=tsum d L n (fun g=>bsum m (fun b=>f b g))
 | 0,f=>rfl
 | n+1,f=>by
  simp only [tsum]
  rw [zzq]
  exact zat fun e _=>zr7 d L m n _
def allN (n:Nat) (p:Nat→Bool):Bool:=(List.range n).all p
theorem zei {n:Nat} {p:Nat→Bool}:allN n p=true↔∀ i,i<n→p i=true:=by simp [allN]
theorem zse (n:Nat) (p:Nat→Bool):allN (n+1) p=(allN n p && p n):=by simp [allN,List.range_succ]
theorem zin {α:Type} (d:α) (L:Nat→List α) (p:Nat→α→Bool):∀ (n:Nat) (f:(Nat→α)→B64),tsum d (fun i=>(L i).filter (p i)) n f=tsum d L n (fun g=>if allN n (fun i=>p i (g i)) then f g else 0#64)
 | 0,f=>rfl
 | n+1,f=>by
  simp only [tsum]
  rw [ziv]
  refine zat fun e _=>?_
  have key:∀ g:Nat→α,allN (n+1) (fun i=>p i (updF g n e i))=(allN n (fun i=>p i (g i)) && p n e):=by
   intro g
   rw [zse]
   congr 1
   ·unfold allN
    rw [Bool.eq_iff_iff]
    simp only [List.all_eq_true,List.mem_range]
    constructor
    ·intro h i hi;have:=h i hi;rw [show updF g n e i=g i by simp [updF];omega] at this;exact this
    ·intro h i hi;rw [show updF g n e i=g i by simp [updF];omega];exact h i hi
   ·simp [updF]
  by_cases he:p n e=true
  ·rw [if_pos he,zin d L p n]
   refine zct d L n _ _ fun g _=>?_
   rw [key,he,Bool.and_true]
  ·rw [if_neg he]
   rw [zct d L n _ (fun _=>0#64) fun g _=>?_,zga]
   rw [key]
   simp [he]
def zfw (f:Nat→B64):Nat→B64
 | 0=>1#64
 | n+1=>zfw f n*f n
theorem zm0 {f g:Nat→B64}:∀ (n:Nat),(∀ i,i<n→f i=g i)→zfw f n=zfw g n
 | 0,_=>rfl
 | n+1,h=>by simp only [zfw];rw [zm0 n fun i hi=>h i (by omega),h n (by omega)]
theorem zqt {α:Type} (w:α→B64) (g:Nat→α) (n:Nat) (e:α):zfw (fun i=>w (updF g n e i)) (n+1)=zfw (fun i=>w (g i)) n*w e:=by
 simp only [zfw]
 rw [zm0 (f:=fun i=>w (updF g n e i)) (g:=fun i=>w (g i)) n fun i hi=>by simp [updF,Nat.ne_of_lt hi]]
 simp [updF]
theorem zrq {α:Type} (d:α) (L:Nat→List α) (w:α→B64):∀ (n:Nat),tsum d L n (fun g=>zfw (fun i=>w (g i)) n)=zfw (fun i=>bsum (L i) w) n
 | 0=>rfl
 | n+1=>by
  show bsum (L n) (fun e=>tsum d L n (fun g=>zfw (fun i=>w (updF g n e i)) (n+1)))=zfw (fun i=>bsum (L i) w) n*bsum (L n) w
  rw [zat (g:=fun e=>w e*zfw (fun i=>bsum (L i) w) n) fun e _=>?_,zvo,BitVec.mul_comm]
  simp only [zqt]
  rw [zpx,zrq d L w n,BitVec.mul_comm]
abbrev H4:=Int×Int×Int×Int
def getH (h:H4) (p:Nat):Int:=match p with|0=>h.1|1=>h.2.1|2=>h.2.2.1|_=>h.2.2.2
def setH (h:H4) (p:Nat) (z:Int):H4:=match p with|0=>(z,h.2)|1=>(h.1,z,h.2.2)|2=>(h.1,h.2.1,z,h.2.2.2)|_=>(h.1,h.2.1,h.2.2.1,z)
def zds (ps:List Nat) (z:Int) (h:H4):H4:=ps.foldl (fun h p=>setH h p z) h
structure Stp where
 us:List (Nat×Nat)
 ps:List Nat
def cntU:List (Nat×Nat)→Nat→Nat
 | [],_=>0
 | u :: us,i=>(if u.1=i then u.2 else 0)+cntU us i
def zjj:List Stp→Nat→Nat
 | [],_=>0
 | st :: sts,i=>zjj sts i+cntU st.us i
structure zij (na:Nat) (st:Stp):Prop where
 ne:st.us≠[]
 nodup:(st.us.map (·.1)).Nodup
 at4:∀ u∈st.us,u.1<na∧1≤u.2
 len:st.us.length≤na
 pl:∀ p∈st.ps,p<4
 pln:st.ps.length≤4
theorem zea {us:List (Nat×Nat)} {i:Nat} (h:i ∉ us.map (·.1)):cntU us i=0:=by
 induction us with
 | nil=>rfl
 | cons u us ih =>
  simp only [List.map_cons,List.mem_cons,not_or] at h
  simp only [cntU]
  rw [if_neg (fun e=>h.1 e.symm),ih h.2]
theorem zhs {us:List (Nat×Nat)} (hn:(us.map (·.1)).Nodup) {u:Nat×Nat} (h:u∈us):cntU us u.1=u.2:=by
 induction us with
 | nil=>cases h
 | cons v us ih =>
  simp only [List.map_cons,List.nodup_cons] at hn
  simp only [cntU]
  rcases List.mem_cons.1 h with rfl|h
  ·rw [if_pos rfl,zea hn.1];rfl
  ·have hne:v.1≠u.1:=fun e=>hn.1 (by rw [e];exact List.mem_map.2 ⟨u,h,rfl⟩)
   rw [if_neg hne,ih hn.2 h,Nat.zero_add]
theorem zfu (z:Int):∀ (us:List (Nat×Nat)) (S:Nat→Src) (i:Nat),(us.map (·.1)).Nodup→narU z us S i=narK z (cntU us i) (S i)
 | [],S,i,_=>rfl
 | u :: us,S,i,hn=>by
  simp only [List.map_cons,List.nodup_cons] at hn
  show narU z us (zo7 z S u) i=_
  rw [zfu z us _ i hn.2]
  simp only [cntU,zo7]
  by_cases h:u.1=i
  ·subst h
   rw [if_pos rfl,zcf,zea hn.1]
   rfl
  ·rw [if_neg h,zdk _ _ (fun e=>h e.symm),Nat.zero_add]
theorem zzz (z:Int) (s:Src):∀ k,(narK z k s).c=s.c+k
 | 0=>rfl
 | k+1=>by show (narK z k s).c+1=_;rw [zzz z s k];omega
theorem zqr (l:List (List REnt)):(l.filter fun r=>!r.isEmpty).flatten=l.flatten:=by
 induction l with
 | nil=>rfl
 | cons a l ih =>
  rw [List.filter_cons]
  cases a with
  | nil=>simpa using ih
  | cons x xs=>simp [ih]
theorem zks {c:Nat} {rs:List (List REnt)} (h:∀ r∈rs,zbc c r) (z:Int):(zcp c z rs).flatten=rs.flatten.filter fun e=>decide (zah e.1 c=z):=by
 unfold zcp
 rw [zqr]
 induction rs with
 | nil=>rfl
 | cons r rs ih =>
  rw [List.map_cons,List.flatten_cons,List.flatten_cons,List.filter_append,ih fun q hq=>h q (List.mem_cons_of_mem _ hq)]
  congr 1
  exact yau (h r (List.mem_cons_self ..)) z
def zdz (z:Int) (c k:Nat) (e:REnt):Bool:=allN k fun j=>decide (zah e.1 (c+j)=z)
theorem zmd (z:Int) {s:Src}:∀ k,zb7 k s→(narK z k s).rs.flatten=s.rs.flatten.filter (zdz z s.c k)
 | 0,_=>by
  show s.rs.flatten=_
  rw [List.filter_eq_self.2]
  intro e _
  rfl
 | k+1,h=>by
  have h1:zb7 (1+k) s:=by rw [Nat.add_comm];exact h
  have h2:=zb7.narK z k h1
  show (zcp (narK z k s).c z (narK z k s).rs).flatten=_
  rw [zks (fun r hr=>(h2.lex r hr).1),zmd z k (h.down (Nat.le_succ k)),List.filter_filter,zzz]
  congr 1
  funext e
  unfold zdz
  rw [zse,Bool.and_comm]
def wtB (e:REnt):B64:=BitVec.ofInt 64 e.2
def zco (us:List (Nat×Nat)) (cs:Nat→Nat) (g:Nat→REnt) (z:Int):Bool:=us.all fun u=>zdz z (cs u.1) u.2 (g u.1)
def zOf (us:List (Nat×Nat)) (cs:Nat→Nat) (g:Nat→REnt):Int:=match us with | []=>0|u :: _=>zah (g u.1).1 (cs u.1)
def zd7:List Stp→(Nat→Nat)→H4→(Nat→REnt)→Option H4
 | [],_,row,_=>some row
 | st :: sts,cs,row,g=>if zco st.us cs g (zOf st.us cs g) then zd7 sts (fun i=>cs i+cntU st.us i) (zds st.ps (zOf st.us cs g) row) g else none
def zb8 (S:Nat→Src) (i:Nat):List REnt:=(S i).rs.flatten
def tval (na:Nat) (sts:List Stp) (S:Nat→Src) (row h:H4):B64:=
 tsum zcg (zb8 S) na fun g=>if zd7 sts (fun i=>(S i).c) row g=some h then zfw (fun i=>wtB (g i)) na else 0#64
theorem zr6 {us:List (Nat×Nat)} {cs:Nat→Nat} {g:Nat→REnt} {z:Int} (hne:us≠[]) (h1:∀ u∈us,1≤u.2) (h:zco us cs g z=true):z=zOf us cs g:=by
 cases us with
 | nil=>exact absurd rfl hne
 | cons u us =>
  unfold zco at h
  rw [List.all_eq_true] at h
  have h2:=h u (List.mem_cons_self ..)
  unfold zdz at h2
  rw [zei] at h2
  have h3:=h2 0 (by have:=h1 u (List.mem_cons_self ..);omega)
  simp at h3
  exact h3.symm
theorem zmi {na:Nat} {us:List (Nat×Nat)} (hn:(us.map (·.1)).Nodup) (ha:∀ u∈us,u.1<na) (cs:Nat→Nat) (g:Nat→REnt) (z:Int) :
  allN na (fun i=>zdz z (cs i) (cntU us i) (g i))=zco us cs g z:=by
 rw [Bool.eq_iff_iff,zei]
 unfold zco
 rw [List.all_eq_true]
 constructor
 ·intro h u hu
  have:=h u.1 (ha u hu)
  rwa [zhs hn hu] at this
 ·intro h i hi
  by_cases hm:i∈us.map (·.1)
  ·obtain ⟨u,hu,rfl⟩:=List.mem_map.1 hm
   rw [zhs hn hu]
   exact h u hu
  ·rw [zea hm]
   rfl
theorem tval_nar {na:Nat} {st:Stp} {sts:List Stp} {S:Nat→Src} (hst:zij na st) (hS:∀ i,i<na→zb7 (zjj (st :: sts) i) (S i)) (z:Int) (row h:H4) :
  tval na sts (narU z st.us S) row h=tsum zcg (zb8 S) na fun g=>if zco st.us (fun i=>(S i).c) g z then (if zd7 sts (fun i=>(S i).c+cntU st.us i) row g=some h then zfw (fun i=>wtB (g i)) na else 0#64) else 0#64:=by
 have hl:∀ i,i<na→zb8 (narU z st.us S) i=(zb8 S i).filter (zdz z (S i).c (cntU st.us i)):=by
  intro i hi
  unfold zb8
  rw [zfu z _ _ _ hst.nodup]
  refine zmd z _ ((hS i hi).down ?_)
  show _≤zjj sts i+cntU st.us i
  omega
 have hc:(fun i=>(narU z st.us S i).c)=fun i=>(S i).c+cntU st.us i:=by
  funext i
  rw [zfu z _ _ _ hst.nodup,zzz]
 unfold tval
 rw [hc,zjy zcg na _ hl,zin]
 refine zct _ _ _ _ _ fun g _=>?_
 rw [zmi (cs:=fun i=>(S i).c) hst.nodup (fun u hu=>(hst.at4 u hu).1)]
theorem zzd {na:Nat} {st:Stp} {sts:List Stp} {S:Nat→Src} (hst:zij na st) (hS:∀ i,i<na→zb7 (zjj (st :: sts) i) (S i)) (V:List Int) (hV:V.Nodup) (hall:∀ z,zi6 st.us S z→z∈V) (row h:H4) :
  tval na (st :: sts) S row h=bsum V fun z=>tval na sts (narU z st.us S) (zds st.ps z row) h:=by
 rw [zat fun z _=>tval_nar hst hS z (zds st.ps z row) h,zr7]
 unfold tval
 refine zct _ _ _ _ _ fun g hg=>?_
 obtain ⟨z0,hz0⟩:∃ z0,z0=zOf st.us (fun i=>(S i).c) g:=⟨_,rfl⟩
 obtain ⟨c0,hc0⟩:∃ c0,c0=(if zco st.us (fun i=>(S i).c) g z0 then (if zd7 sts (fun i=>(S i).c+cntU st.us i) (zds st.ps z0 row) g=some h then zfw (fun i=>wtB (g i)) na else 0#64) else 0#64):=⟨_,rfl⟩
 rw [zat (g:=fun z=>if z=z0 then c0 else 0#64) fun z _=>?_,zgl V hV]
 ·simp only [zd7]
  rw [← hz0]
  by_cases hu:zco st.us (fun i=>(S i).c) g z0=true
  ·have hin:z0∈V:=by
    refine hall z0 fun u hu'=>?_
    unfold zco at hu
    rw [List.all_eq_true] at hu
    have h2:=hu u hu'
    unfold zdz at h2
    rw [zei] at h2
    have h3:=h2 0 (by have:=(hst.at4 u hu').2;omega)
    simp at h3
    have h4:=hg u.1 (hst.at4 u hu').1
    unfold zb8 at h4
    obtain ⟨r,hr,he⟩:=List.mem_flatten.1 h4
    exact ⟨r,hr,_,he,h3⟩
   rw [if_pos hin,hc0,if_pos hu,if_pos hu]
  ·rw [if_neg hu,hc0,if_neg hu]
   simp
 ·by_cases hz:z=z0
  ·subst hz
   rw [if_pos rfl,hc0]
  ·rw [if_neg hz,if_neg]
   intro hu
   exact hz ((zr6 hst.ne (fun u hu=>(hst.at4 u hu).2) hu).trans hz0.symm)
theorem zn8 {na:Nat} {sts:List Stp} {S:Nat→Src} {i:Nat} (hi:i<na) (h0:(S i).rs=[]) (row h:H4):tval na sts S row h=0#64:=
 zos _ (i:=i) (by unfold zb8;rw [h0];rfl) _ _ hi
theorem ybk {na:Nat} {st:Stp} {S:Nat→Src} {z:Int} (hst:zij na st) (h:zff z st.us S=false):∃ i,i<na∧(narU z st.us S i).rs=[]:=by
 unfold zff at h
 rw [List.all_eq_false] at h
 obtain ⟨k,hk,hl⟩:=h
 have hk':=List.mem_range.1 hk
 have hu:st.us[k]?.getD (0,0)∈st.us:=by simp [hk']
 refine ⟨(st.us[k]?.getD (0,0)).1,(hst.at4 _ hu).1,?_⟩
 have he:zkl z st.us S k=[]:=by simpa using hl
 have hn1:((st.us.take (k+1)).map (·.1)).Nodup:=by rw [List.map_take];exact hst.nodup.sublist (List.take_sublist ..)
 have hm:st.us[k]?.getD (0,0)∈st.us.take (k+1):=by
  have e1:st.us[k]?.getD (0,0)=st.us[k]:=by simp [hk']
  rw [e1,List.take_succ_eq_append_getElem hk']
  exact List.mem_append_right _ (List.mem_singleton.2 rfl)
 unfold zkl at he
 rw [zfu z _ _ _ hn1,zhs hn1 hm] at he
 rw [zfu z _ _ _ hst.nodup,zhs hst.nodup hu]
 exact he
theorem tval_end (na:Nat) (S:Nat→Src) (row h:H4):tval na [] S row h=if row=h then zfw (fun i=>bsum (zb8 S i) wtB) na else 0#64:=by
 unfold tval
 by_cases e:row=h
 ·subst e
  simp only [zd7,if_true]
  exact zrq _ _ _ _
 ·rw [if_neg e,zct _ _ _ _ (fun _=>0#64) fun g _=>?_,zga]
  exact if_neg fun e2=>e (Option.some.inj e2)
end Go.Proofs.YtoifcnidhfnapaaGreatDoor
namespace Go.Proofs.YtoifcnidhfnapaaGreatDoor
open Go.RowKit Go.Maps Go.Sort Go.Shelf
theorem zho (x:Int):BitVec.ofInt 64 (wrap64 x)=BitVec.ofInt 64 x:=by
 apply BitVec.eq_of_toInt_eq
 rw [BitVec.toInt_ofInt,BitVec.toInt_ofInt]
 unfold wrap64
 simp only [Int.bmod]
 omega
theorem zof:∀ (es:List REnt) (s:Int),BitVec.ofInt 64 (sumS es s)=BitVec.ofInt 64 s+bsum es wtB
 | [],s=>by simp [sumS,bsum]
 | e :: es,s=>by
  show BitVec.ofInt 64 (sumS es (wrap64 (s+e.2)))=_
  rw [zof es,zho,BitVec.ofInt_add]
  simp only [bsum,wtB]
  rw [BitVec.add_assoc]
theorem zf6:∀ (rs:List (List REnt)) (s:Int),BitVec.ofInt 64 (rs.foldl (fun s r=>sumS r s) s)=BitVec.ofInt 64 s+bsum rs.flatten wtB
 | [],s=>by simp [bsum]
 | r :: rs,s=>by
  rw [List.foldl_cons,zf6 rs,zof,List.flatten_cons,za5,BitVec.add_assoc]
theorem zp6 (rs:List (List REnt)):BitVec.ofInt 64 (zd5 rs)=bsum rs.flatten wtB:=by
 unfold zd5
 rw [zf6]
 simp
theorem zms (rss:Nat→List (List REnt)):∀ n,BitVec.ofInt 64 (zmq rss n)=zfw (fun i=>bsum (rss i).flatten wtB) n
 | 0=>rfl
 | n+1=>by
  show BitVec.ofInt 64 (wrap64 (zmq rss n*zd5 (rss n)))=_
  rw [zho,BitVec.ofInt_mul,zms rss n,zp6]
  rfl
structure SOK (na:Nat) (sts:List Stp) (S:Nat→Src):Prop where
 na4:na≤4
 ok:∀ i,i<na→zb7 (zjj sts i) (S i)
 full:∀ i,i<4→∀ r∈(S i).rs,r≠[]
 wf:∀ i,i<na→∀ e∈zb8 S i,zav e.1
 small:∀ i,i<na→(zb8 S i).length≤100000000000
theorem zl8 {na:Nat} {st:Stp} {sts:List Stp} {S:Nat→Src} (hst:zij na st) (hS:∀ i,i<na→zb7 (zjj (st :: sts) i) (S i)) (z:Int) (i:Nat) (hi:i<na):zb8 (narU z st.us S) i=(zb8 S i).filter (zdz z (S i).c (cntU st.us i)):=by
 unfold zb8
 rw [zfu z _ _ _ hst.nodup]
 refine zmd z _ ((hS i hi).down ?_)
 show _≤zjj sts i+cntU st.us i
 omega
theorem SOK.nar {na:Nat} {st:Stp} {sts:List Stp} {S:Nat→Src} (h:SOK na (st :: sts) S) (hst:zij na st) (z:Int):SOK na sts (narU z st.us S) where
 na4:=h.na4
 ok:=fun i hi=>by
  rw [zfu z _ _ _ hst.nodup]
  exact zb7.narK z _ (h.ok i hi)
 full:=fun i hi=>by
  by_cases hin:i<na
  ·rw [zfu z _ _ _ hst.nodup]
   exact (zb7.narK (n:=zjj sts i) z _ (h.ok i hin)).full
  ·rw [zfu z _ _ _ hst.nodup,zea fun hm=>?_]
   ·exact h.full i hi
   ·obtain ⟨u,hu,rfl⟩:=List.mem_map.1 hm
    exact hin (hst.at4 u hu).1
 wf:=fun i hi e he=>by
  rw [zl8 hst h.ok z i hi] at he
  exact h.wf i hi e (List.mem_filter.1 he).1
 small:=fun i hi=>by
  rw [zl8 hst h.ok z i hi]
  exact Nat.le_trans (List.length_filter_le _ _) (h.small i hi)
theorem SOK.use {na:Nat} {st:Stp} {sts:List Stp} {S:Nat→Src} (h:SOK na (st :: sts) S) (hst:zij na st) {u:Nat×Nat} (hu:u∈st.us):u.1<4∧zb7 u.2 (S u.1):=by
 have h1:=hst.at4 u hu
 refine ⟨by have:=h.na4;omega,(h.ok u.1 h1.1).down ?_⟩
 show _≤zjj sts u.1+cntU st.us u.1
 rw [zhs hst.nodup hu]
 omega
theorem SOK.uses {na:Nat} {st:Stp} {sts:List Stp} {S:Nat→Src} (h:SOK na (st :: sts) S) (hst:zij na st) (z:Int):∀ k,k<st.us.length→(st.us[k]?.getD (0,0)).1<4∧zb7 (st.us[k]?.getD (0,0)).2 (narU z (st.us.take k) S (st.us[k]?.getD (0,0)).1):=by
 intro k hk
 have hu:st.us[k]?.getD (0,0)∈st.us:=by simp [hk]
 obtain ⟨h1,h2⟩:=h.use hst hu
 have hn1:((st.us.take k).map (·.1)).Nodup:=by rw [List.map_take];exact hst.nodup.sublist (List.take_sublist ..)
 refine ⟨h1,?_⟩
 rw [zfu z _ _ _ hn1,zea fun hm=>?_]
 ·exact h2
 ·rw [List.map_take] at hm
  obtain ⟨j,hj,e⟩:=List.getElem_of_mem hm
  simp only [List.length_take,List.length_map] at hj
  rw [List.getElem_take,List.getElem_map] at e
  have e2:(st.us.map (·.1))[j]'(by simp;omega)=(st.us.map (·.1))[k]'(by simpa using hk):=by
   rw [List.getElem_map,List.getElem_map,e]
   simp [hk]
  have:=(List.getElem_inj hst.nodup).1 e2
  omega
theorem SOK.uses1 {na:Nat} {st:Stp} {sts:List Stp} {S:Nat→Src} (h:SOK na (st :: sts) S) (hst:zij na st):∀ k,k<st.us.length→(st.us[k]?.getD (0,0)).1<4∧zb7 1 (S (st.us[k]?.getD (0,0)).1):=by
 intro k hk
 have hu:st.us[k]?.getD (0,0)∈st.us:=by simp [hk]
 obtain ⟨h1,h2⟩:=h.use hst hu
 exact ⟨h1,h2.down (hst.at4 _ hu).2⟩
theorem yar (s:Src) (z:Int):above s z≤s.rs.flatten.length:=by
 unfold above
 exact List.countP_le_length
theorem SOK.above {na:Nat} {st:Stp} {sts:List Stp} {S:Nat→Src} (h:SOK na (st :: sts) S) (hst:zij na st) (z:Int):zc1 st.us S z≤1000000000000:=by
 have key:∀ us:List (Nat×Nat),(∀ u∈us,u.1<na)→zc1 us S z≤us.length*100000000000:=by
  intro us
  induction us with
  | nil=>intro _;simp [zc1]
  | cons u us ih =>
   intro hu
   have h1:=ih fun v hv=>hu v (List.mem_cons_of_mem _ hv)
   have h2:=yar (S u.1) z
   have h3:=h.small u.1 (hu u (List.mem_cons_self ..))
   unfold zb8 at h3
   unfold zc1 at h1 ⊢
   simp only [List.map_cons,List.sum_cons,List.length_cons]
   omega
 have h1:=key st.us fun u hu=>(hst.at4 u hu).1
 have h2:=hst.len
 have h3:=h.na4
 have:st.us.length*100000000000≤4*100000000000:=Nat.mul_le_mul_right _ (by omega)
 omega
theorem zmh {x:Int} (h:wfI x):-9223372036854775808≤x∧x≤9223372036854775807:=by
 unfold wfI at h
 simp only [Lit.wf,IntKind.min,IntKind.max,IntKind.signed,IntKind.bits,Bool.and_eq_true,decide_eq_true_eq,if_true] at h
 omega
theorem ybj {r:Row} (h:zav r) (c:Nat):-9223372036854775808≤zah r c∧zah r c≤9223372036854775807:=by
 obtain ⟨h1,h2,h3⟩:=h
 match c with
 | 0=>exact zmh h1
 | 1=>exact zmh h2
 | c+2=>exact zmh h3
theorem SOK.range {na:Nat} {st:Stp} {sts:List Stp} {S:Nat→Src} (h:SOK na (st :: sts) S) (hst:zij na st) (z:Int) (hz:zi6 st.us S z):-9223372036854775808≤z∧z≤9223372036854775807:=by
 cases hus:st.us with
 | nil=>exact absurd hus hst.ne
 | cons u us =>
  have hu:u∈st.us:=by rw [hus];exact List.mem_cons_self ..
  obtain ⟨r,hr,e,he,rfl⟩:=hz u hu
  exact ybj (h.wf u.1 (hst.at4 u hu).1 e (List.mem_flatten.2 ⟨r,hr,he⟩)) _
theorem zze (h:H4) (p q:Nat) (z:Int) (hp:p<4) (hq:q<4):getH (setH h p z) q=if p=q then z else getH h q:=by
 match p,hp with
 | 0,_=>match q,hq with|0,_=>rfl|1,_=>rfl|2,_=>rfl|3,_=>rfl
 | 1,_=>match q,hq with|0,_=>rfl|1,_=>rfl|2,_=>rfl|3,_=>rfl
 | 2,_=>match q,hq with|0,_=>rfl|1,_=>rfl|2,_=>rfl|3,_=>rfl
 | 3,_=>match q,hq with|0,_=>rfl|1,_=>rfl|2,_=>rfl|3,_=>rfl
theorem zf5 {z:Int} {q:Nat} (hq:q<4):∀ (ps:List Nat) (h:H4),(∀ p∈ps,p<4)→getH (zds ps z h) q=if q∈ps then z else getH h q
 | [],h,_=>by simp [zds]
 | p :: ps,h,hp=>by
  show getH (zds ps z (setH h p z)) q=_
  rw [zf5 hq ps _ fun u hu=>hp u (List.mem_cons_of_mem _ hu),zze _ _ _ _ (hp p (List.mem_cons_self ..)) hq]
  by_cases h1:q∈ps
  ·simp [h1]
  ·by_cases h2:p=q
   ·simp [h1,h2]
   ·have h3:¬ q=p:=fun e=>h2 e.symm
    simp [h1,h2,h3]
theorem H4_ext {a b:H4} (h:∀ q,q<4→getH a q=getH b q):a=b:=by
 obtain ⟨a0,a1,a2,a3⟩:=a
 obtain ⟨b0,b1,b2,b3⟩:=b
 have h0:a0=b0:=h 0 (by omega)
 have h1:a1=b1:=h 1 (by omega)
 have h2:a2=b2:=h 2 (by omega)
 have h3:a3=b3:=h 3 (by omega)
 rw [h0,h1,h2,h3]
def WfH (h:H4):Prop:=wfI h.1∧wfI h.2.1∧wfI h.2.2.1∧wfI h.2.2.2
theorem zoj {z:Int} (h:-9223372036854775808≤z∧z≤9223372036854775807):wfI z:=by
 unfold wfI
 simp only [Lit.wf,IntKind.min,IntKind.max,IntKind.signed,IntKind.bits,Bool.and_eq_true,decide_eq_true_eq,if_true]
 omega
theorem WfH.set {h:H4} (hh:WfH h) {z:Int} (hz:wfI z) (p:Nat):WfH (setH h p z):=by
 obtain ⟨h0,h1,h2,h3⟩:=hh
 match p with
 | 0=>exact ⟨hz,h1,h2,h3⟩
 | 1=>exact ⟨h0,hz,h2,h3⟩
 | 2=>exact ⟨h0,h1,hz,h3⟩
 | p+3=>exact ⟨h0,h1,h2,hz⟩
theorem WfH.zds {z:Int} (hz:wfI z):∀ (ps:List Nat) {h:H4},WfH h→WfH (zds ps z h)
 | [],h,hh=>hh
 | p :: ps,h,hh=>WfH.zds hz ps (hh.set hz p)
def ysum (ys:List (H4×Int)) (h:H4):B64:=bsum ys fun y=>if y.1=h then BitVec.ofInt 64 y.2 else 0#64
theorem zu3 (a b:List (H4×Int)) (h:H4):ysum (a ++ b) h=ysum a h+ysum b h:=za5 _ _ _
theorem zuv (ps:List Nat) (hp:∀ p∈ps,p<4) (z z':Int) (h:H4):zds ps z (zds ps z' h)=zds ps z h:=by
 refine H4_ext fun q hq=>?_
 rw [zf5 hq ps _ hp,zf5 hq ps _ hp,zf5 hq ps _ hp]
 split <;> rfl
def zk2 (f:Nat→Nat):Nat→Nat
 | 0=>1
 | n+1=>zk2 f n*f n
theorem zf8 {f g:Nat→Nat}:∀ (n:Nat),(∀ i,i<n→f i≤g i)→zk2 f n≤zk2 g n
 | 0,_=>Nat.le_refl _
 | n+1,h=>Nat.mul_le_mul (zf8 n fun i hi=>h i (by omega)) (h n (by omega))
theorem zl2 {f g:Nat→Nat} (n:Nat) (h:∀ i,i<n→f i=g i):zk2 f n=zk2 g n:=
 Nat.le_antisymm (zf8 n fun i hi=>Nat.le_of_eq (h i hi)) (zf8 n fun i hi=>Nat.le_of_eq (h i hi).symm)
theorem zie {f:Nat→Nat} {i0 a:Nat}:∀ (n:Nat),i0<n→zk2 (fun i=>if i=i0 then a else f i) n=a*zk2 (fun i=>if i=i0 then 1 else f i) n
 | 0,h=>absurd h (Nat.not_lt_zero _)
 | n+1,h=>by
  simp only [zk2]
  by_cases e:i0=n
  ·subst e
   rw [zl2 (g:=f) i0 fun i hi=>by simp [Nat.ne_of_lt hi],zl2 (f:=fun i=>if i=i0 then 1 else f i) (g:=f) i0 fun i hi=>by simp [Nat.ne_of_lt hi]]
   simp [Nat.mul_comm]
  ·rw [zie n (by omega)]
   have hn:n≠i0:=fun e'=>e e'.symm
   simp only [if_neg hn]
   rw [Nat.mul_assoc]
def tcnt (na:Nat) (S:Nat→Src):Nat:=zk2 (fun i=>(zb8 S i).length) na
theorem zsq (x:Int):∀ (V:List Int),V.Nodup→(V.map fun z=>if x=z then 1 else 0).sum≤1
 | [],_=>Nat.zero_le _
 | z :: V,h=>by
  rw [List.nodup_cons] at h
  simp only [List.map_cons,List.sum_cons]
  by_cases e:x=z
  ·subst e
   have h0:(V.map fun z=>if x=z then 1 else 0).sum=0:=by
    have:∀ (U:List Int),x ∉ U→(U.map fun z=>if x=z then 1 else 0).sum=0:=by
     intro U
     induction U with
     | nil=>intro _;rfl
     | cons u U ih =>
      intro hu
      simp only [List.mem_cons,not_or] at hu
      simp [hu.1,ih hu.2]
    exact this V h.1
   rw [h0];simp
  ·have:=zsq x V h.2
   simp [e,this]
theorem zn9 (c:Nat):∀ (L:List REnt) (V:List Int),V.Nodup→(V.map fun z=>(L.filter fun e=>decide (zah e.1 c=z)).length).sum≤L.length
 | [],V,_=>by
  have:∀ U:List Int,(U.map fun z=>(([]:List REnt).filter fun e=>decide (zah e.1 c=z)).length).sum=0:=by
   intro U
   induction U with
   | nil=>rfl
   | cons u U ih=>simpa using ih
  rw [this];simp
 | e :: L,V,hV=>by
  have h1:=zn9 c L V hV
  have h2:=zsq (zah e.1 c) V hV
  have hf:∀ z,((e :: L).filter fun e=>decide (zah e.1 c=z)).length=(if zah e.1 c=z then 1 else 0)+(L.filter fun e=>decide (zah e.1 c=z)).length:=by
   intro z
   rw [List.filter_cons]
   by_cases hz:zah e.1 c=z
   ·rw [if_pos (by simpa using hz),if_pos hz,List.length_cons,Nat.add_comm]
   ·rw [if_neg (by simpa using hz),if_neg hz,Nat.zero_add]
  have h3:∀ U:List Int,(U.map fun z=>((e :: L).filter fun e=>decide (zah e.1 c=z)).length).sum=(U.map fun z=>if zah e.1 c=z then 1 else 0).sum+(U.map fun z=>(L.filter fun e=>decide (zah e.1 c=z)).length).sum:=by
   intro U
   induction U with
   | nil=>rfl
   | cons u U ih =>
    simp only [List.map_cons,List.sum_cons]
    rw [ih,hf u]
    omega
  rw [h3,List.length_cons]
  omega
theorem zrp {na:Nat} {st:Stp} {sts:List Stp} {S:Nat→Src} (hst:zij na st) (hS:SOK na (st :: sts) S) (V:List Int) (hV:V.Nodup):(V.map fun z=>tcnt na (narU z st.us S)).sum≤tcnt na S:=by
 cases hus:st.us with
 | nil=>exact absurd hus hst.ne
 | cons u us =>
  have hu:u∈st.us:=by rw [hus];exact List.mem_cons_self ..
  have h1:=hst.at4 u hu
  obtain ⟨R,hR⟩:∃ R,R=zk2 (fun i=>if i=u.1 then 1 else (zb8 S i).length) na:=⟨_,rfl⟩
  have key:∀ z,tcnt na (narU z (u :: us) S)≤((zb8 S u.1).filter fun e=>decide (zah e.1 (S u.1).c=z)).length*R:=by
   intro z
   rw [hR,← zie na h1.1]
   unfold tcnt
   refine zf8 na fun i hi=>?_
   rw [← hus,zl8 hst hS.ok z i hi]
   by_cases e:i=u.1
   ·subst e
    rw [if_pos rfl]
    rw [← List.countP_eq_length_filter,← List.countP_eq_length_filter]
    refine List.countP_mono_left fun e _ he=>?_
    unfold zdz at he
    rw [zei] at he
    rw [zhs hst.nodup hu] at he
    have:=he 0 (by omega)
    simpa using this
   ·rw [if_neg e];exact List.length_filter_le _ _
  have hsum:∀ U:List Int,(U.map fun z=>tcnt na (narU z (u :: us) S)).sum≤(U.map fun z=>((zb8 S u.1).filter fun e=>decide (zah e.1 (S u.1).c=z)).length).sum*R:=by
   intro U
   induction U with
   | nil=>simp
   | cons z U ih =>
    simp only [List.map_cons,List.sum_cons]
    have:=key z
    rw [Nat.add_mul]
    omega
  refine Nat.le_trans (hsum V) (Nat.le_trans (Nat.mul_le_mul_right R (zn9 _ _ V hV)) ?_)
  rw [hR,← zie na h1.1]
  unfold tcnt
  refine zf8 na fun i hi=>?_
  by_cases e:i=u.1
  ·subst e;simp
  ·simp [e]
theorem zus {rs:List (List REnt)} (h:rs.flatten=[]):zd5 rs=0:=by
 have:∀ (rs:List (List REnt)) (s:Int),rs.flatten=[]→rs.foldl (fun s r=>sumS r s) s=s:=by
  intro rs
  induction rs with
  | nil=>intro s _;rfl
  | cons r rs ih =>
   intro s h
   rw [List.flatten_cons,List.append_eq_nil_iff] at h
   rw [List.foldl_cons,h.1,show sumS [] s=s from rfl,ih _ h.2]
 exact this rs 0 h
theorem zn1 {rss:Nat→List (List REnt)} {i:Nat} (h:zd5 (rss i)=0):∀ n,i<n→zmq rss n=0
 | 0,hn=>absurd hn (Nat.not_lt_zero _)
 | n+1,hn=>by
  show wrap64 (zmq rss n*zd5 (rss n))=0
  by_cases e:i=n
  ·subst e;rw [h,Int.mul_zero];unfold wrap64;omega
  ·rw [zn1 h n (by omega),Int.zero_mul];unfold wrap64;omega
theorem zsb {f:Nat→Nat}:∀ (n:Nat),(∀ i,i<n→1≤f i)→1≤zk2 f n
 | 0,_=>Nat.le_refl _
 | n+1,h=>Nat.mul_le_mul (zsb n fun i hi=>h i (by omega)) (h n (by omega))
theorem tcnt_pos {na:Nat} {S:Nat→Src} (h:zmq (fun i=>(S i).rs) na≠0):1≤tcnt na S:=by
 refine zsb na fun i hi=>?_
 cases he:zb8 S i with
 | nil=>exact absurd (zn1 (rss:=fun i=>(S i).rs) (zus he) na hi) h
 | cons x xs=>simp
end Go.Proofs.YtoifcnidhfnapaaGreatDoor
