import Derived.Test.YtoifcnidhfnapaaGreatDoorB13
set_option linter.unusedVariables false
set_option linter.unusedSimpArgs false
set_option maxRecDepth 100000
set_option maxHeartbeats 16000000
namespace Go.Proofs.YtoifcnidhfnapaaGreatDoor
abbrev B64:=BitVec 64
def zbz {α:Type}:List α→(α→B64)→B64
 | [],_=>0#64
 | a :: l,f=>f a+zbz l f
theorem zax {α:Type} {l:List α} {f g:α→B64} (h:∀ a∈l,f a=g a):zbz l f=zbz l g:=by
 induction l with
 | nil=>rfl
 | cons a l ih=>simp only [zbz];rw [h a (by simp),ih fun b hb=>h b (by simp [hb])]
theorem zdr {α:Type} (l:List α):zbz l (fun _=>0#64)=0#64:=by
 induction l with
 | nil=>rfl
 | cons a l ih=>simp [zbz,ih]
theorem znk {α:Type} (l:List α) (f g:α→B64):zbz l (fun a=>f a+g a)=zbz l f+zbz l g:=by
 induction l with
 | nil=>simp [zbz]
 | cons a l ih=>simp only [zbz,ih];grind
theorem zyr {α:Type} (l:List α) (f:α→B64) (c:B64):zbz l (fun a=>f a*c)=zbz l f*c:=by
 induction l with
 | nil=>simp [zbz]
 | cons a l ih=>simp only [zbz,ih];grind
theorem zbf {α:Type} (l m:List α) (f:α→B64):zbz (l ++ m) f=zbz l f+zbz m f:=by
 induction l with
 | nil=>simp [zbz]
 | cons a l ih=>simp only [zbz,List.cons_append,ih];grind
theorem zj1 {α:Type} (l:List α) (p:α→Bool) (f:α→B64):zbz (l.filter p) f=zbz l (fun a=>if p a then f a else 0#64):=by
 induction l with
 | nil=>rfl
 | cons a l ih =>
  rw [List.filter_cons]
  simp only [zbz]
  split
  ·simp only [zbz,ih]
  ·rw [ih];simp
theorem ze5 {α β:Type} (l:List α) (h:α→β) (f:β→B64):zbz (l.map h) f=zbz l (fun a=>f (h a)):=by
 induction l with
 | nil=>rfl
 | cons a l ih=>simp only [zbz,List.map_cons,ih]
theorem ycl {α β:Type} (l:List α) (m:List β) (f:α→β→B64):zbz l (fun a=>zbz m (f a))=zbz m (fun b=>zbz l (fun a=>f a b)):=by
 induction l with
 | nil=>simp only [zbz];exact (zdr m).symm
 | cons a l ih=>simp only [zbz,ih,← znk]
theorem zhu {α:Type} [DecidableEq α] (l:List α) (hn:l.Nodup) (x:α) (c:B64):zbz l (fun z=>if z=x then c else 0#64)=if x∈l then c else 0#64:=by
 induction l with
 | nil=>simp [zbz]
 | cons a l ih =>
  simp only [zbz]
  rw [List.nodup_cons] at hn
  rw [ih hn.2]
  by_cases h:a=x
  ·subst h
   simp [hn.1]
  ·have h2:x≠a:=fun e=>h e.symm
   simp [h,h2]
def zhn {α:Type} (g:Nat→α) (n:Nat) (e:α):Nat→α:=fun i=>if i=n then e else g i
def zlj {α:Type} (d:α) (L:Nat→List α):Nat→((Nat→α)→B64)→B64
 | 0,f=>f (fun _=>d)
 | n+1,f=>zbz (L n) fun e=>zlj d L n (fun g=>f (zhn g n e))
theorem zdc {α:Type} (d:α) (L:Nat→List α):∀ (n:Nat) (f f':(Nat→α)→B64),(∀ g,(∀ i,i<n→g i∈L i)→f g=f' g)→zlj d L n f=zlj d L n f'
 | 0,f,f',h=>h _ fun i hi=>absurd hi (Nat.not_lt_zero _)
 | n+1,f,f',h=>by
  simp only [zlj]
  refine zax fun e he=>zdc d L n _ _ fun g hg=>h _ fun i hi=>?_
  unfold zhn
  split
  ·rename_i h;rw [h];exact he
  ·exact hg i (by omega)
theorem zmo {α:Type} (d:α) {L L':Nat→List α}:∀ (n:Nat) (f:(Nat→α)→B64),(∀ i,i<n→L i=L' i)→zlj d L n f=zlj d L' n f
 | 0,f,h=>rfl
 | n+1,f,h=>by
  simp only [zlj]
  rw [h n (by omega)]
  exact zax fun e _=>zmo d n _ fun i hi=>h i (by omega)
theorem zhm {α:Type} (d:α) (L:Nat→List α):∀ (n:Nat),zlj d L n (fun _=>0#64)=0#64
 | 0=>rfl
 | n+1=>by
  simp only [zlj]
  rw [zax (g:=fun _=>0#64) fun e _=>zhm d L n,zdr]
theorem zs8 {α:Type} (d:α) (L:Nat→List α) (c:B64):∀ (n:Nat) (f:(Nat→α)→B64),zlj d L n (fun g=>f g*c)=zlj d L n f*c
 | 0,_=>rfl
 | n+1,f=>by
  simp only [zlj]
  rw [← zyr]
  exact zax fun e _=>zs8 d L c n _
theorem zrf {α:Type} (d:α) {L:Nat→List α} {i:Nat} (hL:L i=[]):∀ (n:Nat) (f:(Nat→α)→B64),i<n→zlj d L n f=0#64
 | 0,_,h=>absurd h (Nat.not_lt_zero _)
 | n+1,f,h=>by
  simp only [zlj]
  by_cases e:i=n
  ·subst e;rw [hL];rfl
  ·rw [zax (g:=fun _=>0#64) fun e _=>zrf d hL n _ (by omega),zdr]
theorem zvq {α β:Type} (d:α) (L:Nat→List α) (m:List β):∀ (n:Nat) (f:β→(Nat→α)→B64),zbz m (fun b=>zlj d L n (f b))=zlj d L n (fun g=>zbz m (fun b=>f b g))
 | 0,f=>rfl
 | n+1,f=>by
  simp only [zlj]
  rw [ycl]
  exact zax fun e _=>zvq d L m n _
def ztc (n:Nat) (p:Nat→Bool):Bool:=(List.range n).all p
theorem ze4 {n:Nat} {p:Nat→Bool}:ztc n p=true↔∀ i,i<n→p i=true:=by simp [ztc]
theorem ztq (n:Nat) (p:Nat→Bool):ztc (n+1) p=(ztc n p && p n):=by simp [ztc,List.range_succ]
theorem zkk {α:Type} (d:α) (L:Nat→List α) (p:Nat→α→Bool):∀ (n:Nat) (f:(Nat→α)→B64),zlj d (fun i=>(L i).filter (p i)) n f=zlj d L n (fun g=>if ztc n (fun i=>p i (g i)) then f g else 0#64)
 | 0,f=>rfl
 | n+1,f=>by
  simp only [zlj]
  rw [zj1]
  refine zax fun e _=>?_
  have key:∀ g:Nat→α,ztc (n+1) (fun i=>p i (zhn g n e i))=(ztc n (fun i=>p i (g i)) && p n e):=by
   intro g
   rw [ztq]
   congr 1
   ·unfold ztc
    rw [Bool.eq_iff_iff]
    simp only [List.all_eq_true,List.mem_range]
    constructor
    ·intro h i hi;have:=h i hi;rw [show zhn g n e i=g i by simp [zhn];omega] at this;exact this
    ·intro h i hi;rw [show zhn g n e i=g i by simp [zhn];omega];exact h i hi
   ·simp [zhn]
  by_cases he:p n e=true
  ·rw [if_pos he,zkk d L p n]
   refine zdc d L n _ _ fun g _=>?_
   rw [key,he,Bool.and_true]
  ·rw [if_neg he]
   rw [zdc d L n _ (fun _=>0#64) fun g _=>?_,zhm]
   rw [key]
   simp [he]
def zg5 (f:Nat→B64):Nat→B64
 | 0=>1#64
 | n+1=>zg5 f n*f n
theorem zn4 {f g:Nat→B64}:∀ (n:Nat),(∀ i,i<n→f i=g i)→zg5 f n=zg5 g n
 | 0,_=>rfl
 | n+1,h=>by simp only [zg5];rw [zn4 n fun i hi=>h i (by omega),h n (by omega)]
theorem ztt {α:Type} (w:α→B64) (g:Nat→α) (n:Nat) (e:α):zg5 (fun i=>w (zhn g n e i)) (n+1)=zg5 (fun i=>w (g i)) n*w e:=by
 simp only [zg5]
 rw [zn4 (f:=fun i=>w (zhn g n e i)) (g:=fun i=>w (g i)) n fun i hi=>by simp [zhn,Nat.ne_of_lt hi]]
 simp [zhn]
theorem zvr {α:Type} (d:α) (L:Nat→List α) (w:α→B64):∀ (n:Nat),zlj d L n (fun g=>zg5 (fun i=>w (g i)) n)=zg5 (fun i=>zbz (L i) w) n
 | 0=>rfl
 | n+1=>by
  show zbz (L n) (fun e=>zlj d L n (fun g=>zg5 (fun i=>w (zhn g n e i)) (n+1)))=zg5 (fun i=>zbz (L i) w) n*zbz (L n) w
  rw [zax (g:=fun e=>w e*zg5 (fun i=>zbz (L i) w) n) fun e _=>?_,zyr,BitVec.mul_comm]
  simp only [ztt]
  rw [zs8,zvr d L w n,BitVec.mul_comm]
abbrev H4:=Int×Int×Int×Int
def yad (h:H4) (p:Nat):Int:=match p with|0=>h.1|1=>h.2.1|2=>h.2.2.1|_=>h.2.2.2
def yj1 (h:H4) (p:Nat) (z:Int):H4:=match p with|0=>(z,h.2)|1=>(h.1,z,h.2.2)|2=>(h.1,h.2.1,z,h.2.2.2)|_=>(h.1,h.2.1,h.2.2.1,z)
def zea (ps:List Nat) (z:Int) (h:H4):H4:=ps.foldl (fun h p=>yj1 h p z) h
structure Stp where
 us:List (Nat×Nat)
 ps:List Nat
def zmy:List (Nat×Nat)→Nat→Nat
 | [],_=>0
 | u :: us,i=>(if u.1=i then u.2 else 0)+zmy us i
def zk5:List Stp→Nat→Nat
 | [],_=>0
 | st :: sts,i=>zk5 sts i+zmy st.us i
structure zjx (na:Nat) (st:Stp):Prop where
 ne:st.us≠[]
 nodup:(st.us.map (·.1)).Nodup
 at4:∀ u∈st.us,u.1<na∧1≤u.2
 len:st.us.length≤na
 pl:∀ p∈st.ps,p<4
 pln:st.ps.length≤4
theorem zez {us:List (Nat×Nat)} {i:Nat} (h:i ∉ us.map (·.1)):zmy us i=0:=by
 induction us with
 | nil=>rfl
 | cons u us ih =>
  simp only [List.map_cons,List.mem_cons,not_or] at h
  simp only [zmy]
  rw [if_neg (fun e=>h.1 e.symm),ih h.2]
theorem zi5 {us:List (Nat×Nat)} (hn:(us.map (·.1)).Nodup) {u:Nat×Nat} (h:u∈us):zmy us u.1=u.2:=by
 induction us with
 | nil=>cases h
 | cons v us ih =>
  simp only [List.map_cons,List.nodup_cons] at hn
  simp only [zmy]
  rcases List.mem_cons.1 h with rfl|h
  ·rw [if_pos rfl,zez hn.1];rfl
  ·have hne:v.1≠u.1:=fun e=>hn.1 (by rw [e];exact List.mem_map.2 ⟨u,h,rfl⟩)
   rw [if_neg hne,ih hn.2 h,Nat.zero_add]
theorem zgw (z:Int):∀ (us:List (Nat×Nat)) (S:Nat→Src) (i:Nat),(us.map (·.1)).Nodup→zh6 z us S i=zp0 z (zmy us i) (S i)
 | [],S,i,_=>rfl
 | u :: us,S,i,hn=>by
  simp only [List.map_cons,List.nodup_cons] at hn
  show zh6 z us (zsf z S u) i=_
  rw [zgw z us _ i hn.2]
  simp only [zmy,zsf]
  by_cases h:u.1=i
  ·subst h
   rw [if_pos rfl,zcw,zez hn.1]
   rfl
  ·rw [if_neg h,zd7 _ _ (fun e=>h e.symm),Nat.zero_add]
theorem ydx (z:Int) (s:Src):∀ k,(zp0 z k s).c=s.c+k
 | 0=>rfl
 | k+1=>by show (zp0 z k s).c+1=_;rw [ydx z s k];omega
theorem zue (l:List (List zaj)):(l.filter fun r=>!r.isEmpty).flatten=l.flatten:=by
 induction l with
 | nil=>rfl
 | cons a l ih =>
  rw [List.filter_cons]
  cases a with
  | nil=>simpa using ih
  | cons x xs=>simp [ih]
theorem zm4 {c:Nat} {rs:List (List zaj)} (h:∀ r∈rs,zbo c r) (z:Int):(zc5 c z rs).flatten=rs.flatten.filter fun e=>decide (zal e.1 c=z):=by
 unfold zc5
 rw [zue]
 induction rs with
 | nil=>rfl
 | cons r rs ih =>
  rw [List.map_cons,List.flatten_cons,List.flatten_cons,List.filter_append,ih fun q hq=>h q (List.mem_cons_of_mem _ hq)]
  congr 1
  exact yek (h r (List.mem_cons_self ..)) z
def zeg (z:Int) (c k:Nat) (e:zaj):Bool:=ztc k fun j=>decide (zal e.1 (c+j)=z)
theorem zov (z:Int) {s:Src}:∀ k,zcm k s→(zp0 z k s).rs.flatten=s.rs.flatten.filter (zeg z s.c k)
 | 0,_=>by
  show s.rs.flatten=_
  rw [List.filter_eq_self.2]
  intro e _
  rfl
 | k+1,h=>by
  have h1:zcm (1+k) s:=by rw [Nat.add_comm];exact h
  have h2:=zcm.zp0 z k h1
  show (zc5 (zp0 z k s).c z (zp0 z k s).rs).flatten=_
  rw [zm4 (fun r hr=>(h2.lex r hr).1),zov z k (h.down (Nat.le_succ k)),List.filter_filter,ydx]
  congr 1
  funext e
  unfold zeg
  rw [ztq,Bool.and_comm]
def wtB (e:zaj):B64:=BitVec.ofInt 64 e.2
def zc7 (us:List (Nat×Nat)) (cs:Nat→Nat) (g:Nat→zaj) (z:Int):Bool:=us.all fun u=>zeg z (cs u.1) u.2 (g u.1)
def zOf (us:List (Nat×Nat)) (cs:Nat→Nat) (g:Nat→zaj):Int:=match us with | []=>0|u :: _=>zal (g u.1).1 (cs u.1)
def zeu:List Stp→(Nat→Nat)→H4→(Nat→zaj)→Option H4
 | [],_,row,_=>some row
 | st :: sts,cs,row,g=>if zc7 st.us cs g (zOf st.us cs g) then zeu sts (fun i=>cs i+zmy st.us i) (zea st.ps (zOf st.us cs g) row) g else none
def zcn (S:Nat→Src) (i:Nat):List zaj:=(S i).rs.flatten
def zs9 (na:Nat) (sts:List Stp) (S:Nat→Src) (row h:H4):B64:=
 zlj zcy (zcn S) na fun g=>if zeu sts (fun i=>(S i).c) row g=some h then zg5 (fun i=>wtB (g i)) na else 0#64
theorem zvu {us:List (Nat×Nat)} {cs:Nat→Nat} {g:Nat→zaj} {z:Int} (hne:us≠[]) (h1:∀ u∈us,1≤u.2) (h:zc7 us cs g z=true):z=zOf us cs g:=by
 cases us with
 | nil=>exact absurd rfl hne
 | cons u us =>
  unfold zc7 at h
  rw [List.all_eq_true] at h
  have h2:=h u (List.mem_cons_self ..)
  unfold zeg at h2
  rw [ze4] at h2
  have h3:=h2 0 (by have:=h1 u (List.mem_cons_self ..);omega)
  simp at h3
  exact h3.symm
theorem zpf {na:Nat} {us:List (Nat×Nat)} (hn:(us.map (·.1)).Nodup) (ha:∀ u∈us,u.1<na) (cs:Nat→Nat) (g:Nat→zaj) (z:Int) :
  ztc na (fun i=>zeg z (cs i) (zmy us i) (g i))=zc7 us cs g z:=by
 rw [Bool.eq_iff_iff,ze4]
 unfold zc7
 rw [List.all_eq_true]
 constructor
 ·intro h u hu
  have:=h u.1 (ha u hu)
  rwa [zi5 hn hu] at this
 ·intro h i hi
  by_cases hm:i∈us.map (·.1)
  ·obtain ⟨u,hu,rfl⟩:=List.mem_map.1 hm
   rw [zi5 hn hu]
   exact h u hu
  ·rw [zez hm]
   rfl
theorem yhp {na:Nat} {st:Stp} {sts:List Stp} {S:Nat→Src} (hst:zjx na st) (hS:∀ i,i<na→zcm (zk5 (st :: sts) i) (S i)) (z:Int) (row h:H4) :
  zs9 na sts (zh6 z st.us S) row h=zlj zcy (zcn S) na fun g=>if zc7 st.us (fun i=>(S i).c) g z then (if zeu sts (fun i=>(S i).c+zmy st.us i) row g=some h then zg5 (fun i=>wtB (g i)) na else 0#64) else 0#64:=by
 have hl:∀ i,i<na→zcn (zh6 z st.us S) i=(zcn S i).filter (zeg z (S i).c (zmy st.us i)):=by
  intro i hi
  unfold zcn
  rw [zgw z _ _ _ hst.nodup]
  refine zov z _ ((hS i hi).down ?_)
  show _≤zk5 sts i+zmy st.us i
  omega
 have hc:(fun i=>(zh6 z st.us S i).c)=fun i=>(S i).c+zmy st.us i:=by
  funext i
  rw [zgw z _ _ _ hst.nodup,ydx]
 unfold zs9
 rw [hc,zmo zcy na _ hl,zkk]
 refine zdc _ _ _ _ _ fun g _=>?_
 rw [zpf (cs:=fun i=>(S i).c) hst.nodup (fun u hu=>(hst.at4 u hu).1)]
theorem ye7 {na:Nat} {st:Stp} {sts:List Stp} {S:Nat→Src} (hst:zjx na st) (hS:∀ i,i<na→zcm (zk5 (st :: sts) i) (S i)) (V:List Int) (hV:V.Nodup) (hall:∀ z,zkn st.us S z→z∈V) (row h:H4) :
  zs9 na (st :: sts) S row h=zbz V fun z=>zs9 na sts (zh6 z st.us S) (zea st.ps z row) h:=by
 rw [zax fun z _=>yhp hst hS z (zea st.ps z row) h,zvq]
 unfold zs9
 refine zdc _ _ _ _ _ fun g hg=>?_
 obtain ⟨z0,hz0⟩:∃ z0,z0=zOf st.us (fun i=>(S i).c) g:=⟨_,rfl⟩
 obtain ⟨c0,hc0⟩:∃ c0,c0=(if zc7 st.us (fun i=>(S i).c) g z0 then (if zeu sts (fun i=>(S i).c+zmy st.us i) (zea st.ps z0 row) g=some h then zg5 (fun i=>wtB (g i)) na else 0#64) else 0#64):=⟨_,rfl⟩
 rw [zax (g:=fun z=>if z=z0 then c0 else 0#64) fun z _=>?_,zhu V hV]
 ·simp only [zeu]
  rw [← hz0]
  by_cases hu:zc7 st.us (fun i=>(S i).c) g z0=true
  ·have hin:z0∈V:=by
    refine hall z0 fun u hu'=>?_
    unfold zc7 at hu
    rw [List.all_eq_true] at hu
    have h2:=hu u hu'
    unfold zeg at h2
    rw [ze4] at h2
    have h3:=h2 0 (by have:=(hst.at4 u hu').2;omega)
    simp at h3
    have h4:=hg u.1 (hst.at4 u hu').1
    unfold zcn at h4
    obtain ⟨r,hr,he⟩:=List.mem_flatten.1 h4
    exact ⟨r,hr,_,he,h3⟩
   rw [if_pos hin,hc0,if_pos hu,if_pos hu]
  ·rw [if_neg hu,hc0,if_neg hu]
   simp
 ·by_cases hz:z=z0
  ·subst hz
   rw [if_pos rfl,hc0]
  ·rw [if_neg hz,if_neg]
   intro hu
   exact hz ((zvu hst.ne (fun u hu=>(hst.at4 u hu).2) hu).trans hz0.symm)
theorem zrh {na:Nat} {sts:List Stp} {S:Nat→Src} {i:Nat} (hi:i<na) (h0:(S i).rs=[]) (row h:H4):zs9 na sts S row h=0#64:=
 zrf _ (i:=i) (by unfold zcn;rw [h0];rfl) _ _ hi
theorem ydo {na:Nat} {st:Stp} {S:Nat→Src} {z:Int} (hst:zjx na st) (h:zgc z st.us S=false):∃ i,i<na∧(zh6 z st.us S i).rs=[]:=by
 unfold zgc at h
 rw [List.all_eq_false] at h
 obtain ⟨k,hk,hl⟩:=h
 have hk':=List.mem_range.1 hk
 have hu:st.us[k]?.getD (0,0)∈st.us:=by simp [hk']
 refine ⟨(st.us[k]?.getD (0,0)).1,(hst.at4 _ hu).1,?_⟩
 have he:zm2 z st.us S k=[]:=by simpa using hl
 have hn1:((st.us.take (k+1)).map (·.1)).Nodup:=by rw [List.map_take];exact hst.nodup.sublist (List.take_sublist ..)
 have hm:st.us[k]?.getD (0,0)∈st.us.take (k+1):=by
  have e1:st.us[k]?.getD (0,0)=st.us[k]:=by simp [hk']
  rw [e1,List.take_succ_eq_append_getElem hk']
  exact List.mem_append_right _ (List.mem_singleton.2 rfl)
 unfold zm2 at he
 rw [zgw z _ _ _ hn1,zi5 hn1 hm] at he
 rw [zgw z _ _ _ hst.nodup,zi5 hst.nodup hu]
 exact he
theorem yho (na:Nat) (S:Nat→Src) (row h:H4):zs9 na [] S row h=if row=h then zg5 (fun i=>zbz (zcn S i) wtB) na else 0#64:=by
 unfold zs9
 by_cases e:row=h
 ·subst e
  simp only [zeu,if_true]
  exact zvr _ _ _ _
 ·rw [if_neg e,zdc _ _ _ _ (fun _=>0#64) fun g _=>?_,zhm]
  exact if_neg fun e2=>e (Option.some.inj e2)
end Go.Proofs.YtoifcnidhfnapaaGreatDoor
namespace Go.Proofs.YtoifcnidhfnapaaGreatDoor
open Go.RowKit Go.Maps Go.Sort Go.Shelf
theorem zje (x:Int):BitVec.ofInt 64 (wrap64 x)=BitVec.ofInt 64 x:=by
 apply BitVec.eq_of_toInt_eq
 rw [BitVec.toInt_ofInt,BitVec.toInt_ofInt]
 unfold wrap64
 simp only [Int.bmod]
 omega
theorem zq2:∀ (es:List zaj) (s:Int),BitVec.ofInt 64 (ybx es s)=BitVec.ofInt 64 s+zbz es wtB
 | [],s=>by simp [ybx,zbz]
 | e :: es,s=>by
  show BitVec.ofInt 64 (ybx es (wrap64 (s+e.2)))=_
  rw [zq2 es,zje,BitVec.ofInt_add]
  simp only [zbz,wtB]
  rw [BitVec.add_assoc]
theorem zhk:∀ (rs:List (List zaj)) (s:Int),BitVec.ofInt 64 (rs.foldl (fun s r=>ybx r s) s)=BitVec.ofInt 64 s+zbz rs.flatten wtB
 | [],s=>by simp [zbz]
 | r :: rs,s=>by
  rw [List.foldl_cons,zhk rs,zq2,List.flatten_cons,zbf,BitVec.add_assoc]
theorem zsl (rs:List (List zaj)):BitVec.ofInt 64 (zeq rs)=zbz rs.flatten wtB:=by
 unfold zeq
 rw [zhk]
 simp
theorem zoz (rss:Nat→List (List zaj)):∀ n,BitVec.ofInt 64 (zo1 rss n)=zg5 (fun i=>zbz (rss i).flatten wtB) n
 | 0=>rfl
 | n+1=>by
  show BitVec.ofInt 64 (wrap64 (zo1 rss n*zeq (rss n)))=_
  rw [zje,BitVec.ofInt_mul,zoz rss n,zsl]
  rfl
structure SOK (na:Nat) (sts:List Stp) (S:Nat→Src):Prop where
 na4:na≤4
 ok:∀ i,i<na→zcm (zk5 sts i) (S i)
 full:∀ i,i<4→∀ r∈(S i).rs,r≠[]
 wf:∀ i,i<na→∀ e∈zcn S i,zaw e.1
 small:∀ i,i<na→(zcn S i).length≤100000000000
theorem zoj {na:Nat} {st:Stp} {sts:List Stp} {S:Nat→Src} (hst:zjx na st) (hS:∀ i,i<na→zcm (zk5 (st :: sts) i) (S i)) (z:Int) (i:Nat) (hi:i<na):zcn (zh6 z st.us S) i=(zcn S i).filter (zeg z (S i).c (zmy st.us i)):=by
 unfold zcn
 rw [zgw z _ _ _ hst.nodup]
 refine zov z _ ((hS i hi).down ?_)
 show _≤zk5 sts i+zmy st.us i
 omega
theorem SOK.nar {na:Nat} {st:Stp} {sts:List Stp} {S:Nat→Src} (h:SOK na (st :: sts) S) (hst:zjx na st) (z:Int):SOK na sts (zh6 z st.us S) where
 na4:=h.na4
 ok:=fun i hi=>by
  rw [zgw z _ _ _ hst.nodup]
  exact zcm.zp0 z _ (h.ok i hi)
 full:=fun i hi=>by
  by_cases hin:i<na
  ·rw [zgw z _ _ _ hst.nodup]
   exact (zcm.zp0 (n:=zk5 sts i) z _ (h.ok i hin)).full
  ·rw [zgw z _ _ _ hst.nodup,zez fun hm=>?_]
   ·exact h.full i hi
   ·obtain ⟨u,hu,rfl⟩:=List.mem_map.1 hm
    exact hin (hst.at4 u hu).1
 wf:=fun i hi e he=>by
  rw [zoj hst h.ok z i hi] at he
  exact h.wf i hi e (List.mem_filter.1 he).1
 small:=fun i hi=>by
  rw [zoj hst h.ok z i hi]
  exact Nat.le_trans (List.length_filter_le _ _) (h.small i hi)
theorem SOK.use {na:Nat} {st:Stp} {sts:List Stp} {S:Nat→Src} (h:SOK na (st :: sts) S) (hst:zjx na st) {u:Nat×Nat} (hu:u∈st.us):u.1<4∧zcm u.2 (S u.1):=by
 have h1:=hst.at4 u hu
 refine ⟨by have:=h.na4;omega,(h.ok u.1 h1.1).down ?_⟩
 show _≤zk5 sts u.1+zmy st.us u.1
 rw [zi5 hst.nodup hu]
 omega
theorem SOK.uses {na:Nat} {st:Stp} {sts:List Stp} {S:Nat→Src} (h:SOK na (st :: sts) S) (hst:zjx na st) (z:Int):∀ k,k<st.us.length→(st.us[k]?.getD (0,0)).1<4∧zcm (st.us[k]?.getD (0,0)).2 (zh6 z (st.us.take k) S (st.us[k]?.getD (0,0)).1):=by
 intro k hk
 have hu:st.us[k]?.getD (0,0)∈st.us:=by simp [hk]
 obtain ⟨h1,h2⟩:=h.use hst hu
 have hn1:((st.us.take k).map (·.1)).Nodup:=by rw [List.map_take];exact hst.nodup.sublist (List.take_sublist ..)
 refine ⟨h1,?_⟩
 rw [zgw z _ _ _ hn1,zez fun hm=>?_]
 ·exact h2
 ·rw [List.map_take] at hm
  obtain ⟨j,hj,e⟩:=List.getElem_of_mem hm
  simp only [List.length_take,List.length_map] at hj
  rw [List.getElem_take,List.getElem_map] at e
  have e2:(st.us.map (·.1))[j]'(by simp;omega)=(st.us.map (·.1))[k]'(by simpa using hk):=by
   rw [List.getElem_map,List.getElem_map,e]
   simp [hk]
  have:=(List.getElem_inj hst.nodup).1 e2
  omega
theorem SOK.uses1 {na:Nat} {st:Stp} {sts:List Stp} {S:Nat→Src} (h:SOK na (st :: sts) S) (hst:zjx na st):∀ k,k<st.us.length→(st.us[k]?.getD (0,0)).1<4∧zcm 1 (S (st.us[k]?.getD (0,0)).1):=by
 intro k hk
 have hu:st.us[k]?.getD (0,0)∈st.us:=by simp [hk]
 obtain ⟨h1,h2⟩:=h.use hst hu
 exact ⟨h1,h2.down (hst.at4 _ hu).2⟩
theorem yb9 (s:Src) (z:Int):above s z≤s.rs.flatten.length:=by
 unfold above
 exact List.countP_le_length
theorem SOK.above {na:Nat} {st:Stp} {sts:List Stp} {S:Nat→Src} (h:SOK na (st :: sts) S) (hst:zjx na st) (z:Int):zdh st.us S z≤1000000000000:=by
 have key:∀ us:List (Nat×Nat),(∀ u∈us,u.1<na)→zdh us S z≤us.length*100000000000:=by
  intro us
  induction us with
  | nil=>intro _;simp [zdh]
  | cons u us ih =>
   intro hu
   have h1:=ih fun v hv=>hu v (List.mem_cons_of_mem _ hv)
   have h2:=yb9 (S u.1) z
   have h3:=h.small u.1 (hu u (List.mem_cons_self ..))
   unfold zcn at h3
   unfold zdh at h1 ⊢
   simp only [List.map_cons,List.sum_cons,List.length_cons]
   omega
 have h1:=key st.us fun u hu=>(hst.at4 u hu).1
 have h2:=hst.len
 have h3:=h.na4
 have:st.us.length*100000000000≤4*100000000000:=Nat.mul_le_mul_right _ (by omega)
 omega
theorem zpk {x:Int} (h:wfI x):-9223372036854775808≤x∧x≤9223372036854775807:=by
 unfold wfI at h
 simp only [Lit.wf,IntKind.min,IntKind.max,IntKind.signed,IntKind.bits,Bool.and_eq_true,decide_eq_true_eq,if_true] at h
 omega
theorem yfe {r:Row} (h:zaw r) (c:Nat):-9223372036854775808≤zal r c∧zal r c≤9223372036854775807:=by
 obtain ⟨h1,h2,h3⟩:=h
 match c with
 | 0=>exact zpk h1
 | 1=>exact zpk h2
 | c+2=>exact zpk h3
theorem SOK.range {na:Nat} {st:Stp} {sts:List Stp} {S:Nat→Src} (h:SOK na (st :: sts) S) (hst:zjx na st) (z:Int) (hz:zkn st.us S z):-9223372036854775808≤z∧z≤9223372036854775807:=by
 cases hus:st.us with
 | nil=>exact absurd hus hst.ne
 | cons u us =>
  have hu:u∈st.us:=by rw [hus];exact List.mem_cons_self ..
  obtain ⟨r,hr,e,he,rfl⟩:=hz u hu
  exact yfe (h.wf u.1 (hst.at4 u hu).1 e (List.mem_flatten.2 ⟨r,hr,he⟩)) _
theorem yda (h:H4) (p q:Nat) (z:Int) (hp:p<4) (hq:q<4):yad (yj1 h p z) q=if p=q then z else yad h q:=by
 match p,hp with
 | 0,_=>match q,hq with|0,_=>rfl|1,_=>rfl|2,_=>rfl|3,_=>rfl
 | 1,_=>match q,hq with|0,_=>rfl|1,_=>rfl|2,_=>rfl|3,_=>rfl
 | 2,_=>match q,hq with|0,_=>rfl|1,_=>rfl|2,_=>rfl|3,_=>rfl
 | 3,_=>match q,hq with|0,_=>rfl|1,_=>rfl|2,_=>rfl|3,_=>rfl
theorem zg9 {z:Int} {q:Nat} (hq:q<4):∀ (ps:List Nat) (h:H4),(∀ p∈ps,p<4)→yad (zea ps z h) q=if q∈ps then z else yad h q
 | [],h,_=>by simp [zea]
 | p :: ps,h,hp=>by
  show yad (zea ps z (yj1 h p z)) q=_
  rw [zg9 hq ps _ fun u hu=>hp u (List.mem_cons_of_mem _ hu),yda _ _ _ _ (hp p (List.mem_cons_self ..)) hq]
  by_cases h1:q∈ps
  ·simp [h1]
  ·by_cases h2:p=q
   ·simp [h1,h2]
   ·have h3:¬ q=p:=fun e=>h2 e.symm
    simp [h1,h2,h3]
theorem yhx {a b:H4} (h:∀ q,q<4→yad a q=yad b q):a=b:=by
 obtain ⟨a0,a1,a2,a3⟩:=a
 obtain ⟨b0,b1,b2,b3⟩:=b
 have h0:a0=b0:=h 0 (by omega)
 have h1:a1=b1:=h 1 (by omega)
 have h2:a2=b2:=h 2 (by omega)
 have h3:a3=b3:=h 3 (by omega)
 rw [h0,h1,h2,h3]
def WfH (h:H4):Prop:=wfI h.1∧wfI h.2.1∧wfI h.2.2.1∧wfI h.2.2.2
theorem zbm {z:Int} (h:-9223372036854775808≤z∧z≤9223372036854775807):wfI z:=by
 unfold wfI
 simp only [Lit.wf,IntKind.min,IntKind.max,IntKind.signed,IntKind.bits,Bool.and_eq_true,decide_eq_true_eq,if_true]
 omega
theorem WfH.set {h:H4} (hh:WfH h) {z:Int} (hz:wfI z) (p:Nat):WfH (yj1 h p z):=by
 obtain ⟨h0,h1,h2,h3⟩:=hh
 match p with
 | 0=>exact ⟨hz,h1,h2,h3⟩
 | 1=>exact ⟨h0,hz,h2,h3⟩
 | 2=>exact ⟨h0,h1,hz,h3⟩
 | p+3=>exact ⟨h0,h1,h2,hz⟩
theorem WfH.zea {z:Int} (hz:wfI z):∀ (ps:List Nat) {h:H4},WfH h→WfH (zea ps z h)
 | [],h,hh=>hh
 | p :: ps,h,hh=>WfH.zea hz ps (hh.set hz p)
def zrj (ys:List (H4×Int)) (h:H4):B64:=zbz ys fun y=>if y.1=h then BitVec.ofInt 64 y.2 else 0#64
theorem zyl (a b:List (H4×Int)) (h:H4):zrj (a ++ b) h=zrj a h+zrj b h:=zbf _ _ _
theorem zxz (ps:List Nat) (hp:∀ p∈ps,p<4) (z z':Int) (h:H4):zea ps z (zea ps z' h)=zea ps z h:=by
 refine yhx fun q hq=>?_
 rw [zg9 hq ps _ hp,zg9 hq ps _ hp,zg9 hq ps _ hp]
 split <;> rfl
def znf (f:Nat→Nat):Nat→Nat
 | 0=>1
 | n+1=>znf f n*f n
theorem zhi {f g:Nat→Nat}:∀ (n:Nat),(∀ i,i<n→f i≤g i)→znf f n≤znf g n
 | 0,_=>Nat.le_refl _
 | n+1,h=>Nat.mul_le_mul (zhi n fun i hi=>h i (by omega)) (h n (by omega))
theorem zow {f g:Nat→Nat} (n:Nat) (h:∀ i,i<n→f i=g i):znf f n=znf g n:=
 Nat.le_antisymm (zhi n fun i hi=>Nat.le_of_eq (h i hi)) (zhi n fun i hi=>Nat.le_of_eq (h i hi).symm)
theorem zkc {f:Nat→Nat} {i0 a:Nat}:∀ (n:Nat),i0<n→znf (fun i=>if i=i0 then a else f i) n=a*znf (fun i=>if i=i0 then 1 else f i) n
 | 0,h=>absurd h (Nat.not_lt_zero _)
 | n+1,h=>by
  simp only [znf]
  by_cases e:i0=n
  ·subst e
   rw [zow (g:=f) i0 fun i hi=>by simp [Nat.ne_of_lt hi],zow (f:=fun i=>if i=i0 then 1 else f i) (g:=f) i0 fun i hi=>by simp [Nat.ne_of_lt hi]]
   simp [Nat.mul_comm]
  ·rw [zkc n (by omega)]
   have hn:n≠i0:=fun e'=>e e'.symm
   simp only [if_neg hn]
   rw [Nat.mul_assoc]
def zmn (na:Nat) (S:Nat→Src):Nat:=znf (fun i=>(zcn S i).length) na
theorem zt6 (x:Int):∀ (V:List Int),V.Nodup→(V.map fun z=>if x=z then 1 else 0).sum≤1
 | [],_=>Nat.zero_le _
 | z :: V,h=>by
  rw [List.nodup_cons] at h
  simp only [List.map_cons,List.sum_cons]
  by_cases e:x=z
  ·subst e
   have h0:(V.map fun z=>if x=z then 1 else 0).sum=0:=by
    have:∀ (U:List Int),x ∉ U→(U.map fun z=>if x=z then 1 else 0).sum=0:=by
     intro U
     induction U with
     | nil=>intro _;rfl
     | cons u U ih =>
      intro hu
      simp only [List.mem_cons,not_or] at hu
      simp [hu.1,ih hu.2]
    exact this V h.1
   rw [h0];simp
  ·have:=zt6 x V h.2
   simp [e,this]
theorem zrc (c:Nat):∀ (L:List zaj) (V:List Int),V.Nodup→(V.map fun z=>(L.filter fun e=>decide (zal e.1 c=z)).length).sum≤L.length
 | [],V,_=>by
  have:∀ U:List Int,(U.map fun z=>(([]:List zaj).filter fun e=>decide (zal e.1 c=z)).length).sum=0:=by
   intro U
   induction U with
   | nil=>rfl
   | cons u U ih=>simpa using ih
  rw [this];simp
 | e :: L,V,hV=>by
  have h1:=zrc c L V hV
  have h2:=zt6 (zal e.1 c) V hV
  have hf:∀ z,((e :: L).filter fun e=>decide (zal e.1 c=z)).length=(if zal e.1 c=z then 1 else 0)+(L.filter fun e=>decide (zal e.1 c=z)).length:=by
   intro z
   rw [List.filter_cons]
   by_cases hz:zal e.1 c=z
   ·rw [if_pos (by simpa using hz),if_pos hz,List.length_cons,Nat.add_comm]
   ·rw [if_neg (by simpa using hz),if_neg hz,Nat.zero_add]
  have h3:∀ U:List Int,(U.map fun z=>((e :: L).filter fun e=>decide (zal e.1 c=z)).length).sum=(U.map fun z=>if zal e.1 c=z then 1 else 0).sum+(U.map fun z=>(L.filter fun e=>decide (zal e.1 c=z)).length).sum:=by
   intro U
   induction U with
   | nil=>rfl
   | cons u U ih =>
    simp only [List.map_cons,List.sum_cons]
    rw [ih,hf u]
    omega
  rw [h3,List.length_cons]
  omega
theorem zvn {na:Nat} {st:Stp} {sts:List Stp} {S:Nat→Src} (hst:zjx na st) (hS:SOK na (st :: sts) S) (V:List Int) (hV:V.Nodup):(V.map fun z=>zmn na (zh6 z st.us S)).sum≤zmn na S:=by
 cases hus:st.us with
 | nil=>exact absurd hus hst.ne
 | cons u us =>
  have hu:u∈st.us:=by rw [hus];exact List.mem_cons_self ..
  have h1:=hst.at4 u hu
  obtain ⟨R,hR⟩:∃ R,R=znf (fun i=>if i=u.1 then 1 else (zcn S i).length) na:=⟨_,rfl⟩
  have key:∀ z,zmn na (zh6 z (u :: us) S)≤((zcn S u.1).filter fun e=>decide (zal e.1 (S u.1).c=z)).length*R:=by
   intro z
   rw [hR,← zkc na h1.1]
   unfold zmn
   refine zhi na fun i hi=>?_
   rw [← hus,zoj hst hS.ok z i hi]
   by_cases e:i=u.1
   ·subst e
    rw [if_pos rfl]
    rw [← List.countP_eq_length_filter,← List.countP_eq_length_filter]
    refine List.countP_mono_left fun e _ he=>?_
    unfold zeg at he
    rw [ze4] at he
    rw [zi5 hst.nodup hu] at he
    have:=he 0 (by omega)
    simpa using this
   ·rw [if_neg e];exact List.length_filter_le _ _
  have hsum:∀ U:List Int,(U.map fun z=>zmn na (zh6 z (u :: us) S)).sum≤(U.map fun z=>((zcn S u.1).filter fun e=>decide (zal e.1 (S u.1).c=z)).length).sum*R:=by
   intro U
   induction U with
   | nil=>simp
   | cons z U ih =>
    simp only [List.map_cons,List.sum_cons]
    have:=key z
    rw [Nat.add_mul]
    omega
  refine Nat.le_trans (hsum V) (Nat.le_trans (Nat.mul_le_mul_right R (zrc _ _ V hV)) ?_)
  rw [hR,← zkc na h1.1]
  unfold zmn
  refine zhi na fun i hi=>?_
  by_cases e:i=u.1
  ·subst e;simp
  ·simp [e]
theorem zyc {rs:List (List zaj)} (h:rs.flatten=[]):zeq rs=0:=by
 have:∀ (rs:List (List zaj)) (s:Int),rs.flatten=[]→rs.foldl (fun s r=>ybx r s) s=s:=by
  intro rs
  induction rs with
  | nil=>intro s _;rfl
  | cons r rs ih =>
   intro s h
   rw [List.flatten_cons,List.append_eq_nil_iff] at h
   rw [List.foldl_cons,h.1,show ybx [] s=s from rfl,ih _ h.2]
 exact this rs 0 h
theorem zq4 {rss:Nat→List (List zaj)} {i:Nat} (h:zeq (rss i)=0):∀ n,i<n→zo1 rss n=0
 | 0,hn=>absurd hn (Nat.not_lt_zero _)
 | n+1,hn=>by
  show wrap64 (zo1 rss n*zeq (rss n))=0
  by_cases e:i=n
  ·subst e;rw [h,Int.mul_zero];unfold wrap64;omega
  ·rw [zq4 h n (by omega),Int.zero_mul];unfold wrap64;omega
theorem zuz {f:Nat→Nat}:∀ (n:Nat),(∀ i,i<n→1≤f i)→1≤znf f n
 | 0,_=>Nat.le_refl _
 | n+1,h=>Nat.mul_le_mul (zuz n fun i hi=>h i (by omega)) (h n (by omega))
theorem yhn {na:Nat} {S:Nat→Src} (h:zo1 (fun i=>(S i).rs) na≠0):1≤zmn na S:=by
 refine zuz na fun i hi=>?_
 cases he:zcn S i with
 | nil=>exact absurd (zq4 (rss:=fun i=>(S i).rs) (zyc he) na hi) h
 | cons x xs=>simp
end Go.Proofs.YtoifcnidhfnapaaGreatDoor
