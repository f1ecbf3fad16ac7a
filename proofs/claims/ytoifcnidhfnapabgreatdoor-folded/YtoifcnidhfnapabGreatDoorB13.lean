import Derived.Test.YtoifcnidhfnapabGreatDoorB12
set_option linter.unusedVariables false
set_option linter.unusedSimpArgs false
set_option maxRecDepth 100000
set_option maxHeartbeats 16000000
namespace Go.Proofs.YtoifcnidhfnapabGreatDoor
abbrev B64:=BitVec 64
def zb0 {α:Type}:List α→(α→B64)→B64
 | [],_=>0#64
 | a :: l,f=>f a+zb0 l f
theorem za8 {α:Type} {l:List α} {f g:α→B64} (h:∀ a∈l,f a=g a):zb0 l f=zb0 l g:=by
 induction l with
 | nil=>rfl
 | cons a l ih=>simp only [zb0];rw [h a (by simp),ih fun b hb=>h b (by simp [hb])]
theorem zft {α:Type} (l:List α):zb0 l (fun _=>0#64)=0#64:=by
 induction l with
 | nil=>rfl
 | cons a l ih=>simp [zb0,ih]
theorem zns {α:Type} (l:List α) (f g:α→B64):zb0 l (fun a=>f a+g a)=zb0 l f+zb0 l g:=by
 induction l with
 | nil=>simp [zb0]
 | cons a l ih=>simp only [zb0,ih];grind
theorem zyg {α:Type} (l:List α) (f:α→B64) (c:B64):zb0 l (fun a=>f a*c)=zb0 l f*c:=by
 induction l with
 | nil=>simp [zb0]
 | cons a l ih=>simp only [zb0,ih];grind
theorem zbg {α:Type} (l m:List α) (f:α→B64):zb0 (l ++ m) f=zb0 l f+zb0 m f:=by
 induction l with
 | nil=>simp [zb0]
 | cons a l ih=>simp only [zb0,List.cons_append,ih];grind
theorem zj0 {α:Type} (l:List α) (p:α→Bool) (f:α→B64):zb0 (l.filter p) f=zb0 l (fun a=>if p a then f a else 0#64):=by
 induction l with
 | nil=>rfl
 | cons a l ih =>
  rw [List.filter_cons]
  simp only [zb0]
  split
  ·simp only [zb0,ih]
  ·rw [ih];simp
theorem zhg {α β:Type} (l:List α) (h:α→β) (f:β→B64):zb0 (l.map h) f=zb0 l (fun a=>f (h a)):=by
 induction l with
 | nil=>rfl
 | cons a l ih=>simp only [zb0,List.map_cons,ih]
theorem ycs {α β:Type} (l:List α) (m:List β) (f:α→β→B64):zb0 l (fun a=>zb0 m (f a))=zb0 m (fun b=>zb0 l (fun a=>f a b)):=by
 induction l with
 | nil=>simp only [zb0];exact (zft m).symm
 | cons a l ih=>simp only [zb0,ih,← zns]
theorem znt {α:Type} [DecidableEq α] (l:List α) (hn:l.Nodup) (x:α) (c:B64):zb0 l (fun z=>if z=x then c else 0#64)=if x∈l then c else 0#64:=by
 induction l with
 | nil=>simp [zb0]
 | cons a l ih =>
  simp only [zb0]
  rw [List.nodup_cons] at hn
  rw [ih hn.2]
  by_cases h:a=x
  ·subst h
   simp [hn.1]
  ·have h2:x≠a:=fun e=>h e.symm
   simp [h,h2]
def zio {α:Type} (g:Nat→α) (n:Nat) (e:α):Nat→α:=fun i=>if i=n then e else g i
def zlr {α:Type} (d:α) (L:Nat→List α):Nat→((Nat→α)→B64)→B64
 | 0,f=>f (fun _=>d)
 | n+1,f=>zb0 (L n) fun e=>zlr d L n (fun g=>f (zio g n e))
theorem zc8 {α:Type} (d:α) (L:Nat→List α):∀ (n:Nat) (f f':(Nat→α)→B64),(∀ g,(∀ i,i<n→g i∈L i)→f g=f' g)→zlr d L n f=zlr d L n f'
 | 0,f,f',h=>h _ fun i hi=>absurd hi (Nat.not_lt_zero _)
 | n+1,f,f',h=>by
  simp only [zlr]
  refine za8 fun e he=>zc8 d L n _ _ fun g hg=>h _ fun i hi=>?_
  unfold zio
  split
  ·rename_i h;rw [h];exact he
  ·exact hg i (by omega)
theorem zmn {α:Type} (d:α) {L L':Nat→List α}:∀ (n:Nat) (f:(Nat→α)→B64),(∀ i,i<n→L i=L' i)→zlr d L n f=zlr d L' n f
 | 0,f,h=>rfl
 | n+1,f,h=>by
  simp only [zlr]
  rw [h n (by omega)]
  exact za8 fun e _=>zmn d n _ fun i hi=>h i (by omega)
theorem zg7 {α:Type} (d:α) (L:Nat→List α):∀ (n:Nat),zlr d L n (fun _=>0#64)=0#64
 | 0=>rfl
 | n+1=>by
  simp only [zlr]
  rw [za8 (g:=fun _=>0#64) fun e _=>zg7 d L n,zft]
theorem zth {α:Type} (d:α) (L:Nat→List α) (c:B64):∀ (n:Nat) (f:(Nat→α)→B64),zlr d L n (fun g=>f g*c)=zlr d L n f*c
 | 0,_=>rfl
 | n+1,f=>by
  simp only [zlr]
  rw [← zyg]
  exact za8 fun e _=>zth d L c n _
theorem zrs {α:Type} (d:α) {L:Nat→List α} {i:Nat} (hL:L i=[]):∀ (n:Nat) (f:(Nat→α)→B64),i<n→zlr d L n f=0#64
 | 0,_,h=>absurd h (Nat.not_lt_zero _)
 | n+1,f,h=>by
  simp only [zlr]
  by_cases e:i=n
  ·subst e;rw [hL];rfl
  ·rw [za8 (g:=fun _=>0#64) fun e _=>zrs d hL n _ (by omega),zft]
theorem zvv {α β:Type} (d:α) (L:Nat→List α) (m:List β):∀ (n:Nat) (f:β→(Nat→α)→B64),zb0 m (fun b=>zlr d L n (f b))=zlr d L n (fun g=>zb0 m (fun b=>f b g))
 | 0,f=>rfl
 | n+1,f=>by
  simp only [zlr]
  rw [ycs]
  exact za8 fun e _=>zvv d L m n _
def ztl (n:Nat) (p:Nat→Bool):Bool:=(List.range n).all p
theorem zez {n:Nat} {p:Nat→Bool}:ztl n p=true↔∀ i,i<n→p i=true:=by simp [ztl]
theorem zt0 (n:Nat) (p:Nat→Bool):ztl (n+1) p=(ztl n p && p n):=by simp [ztl,List.range_succ]
theorem zkj {α:Type} (d:α) (L:Nat→List α) (p:Nat→α→Bool):∀ (n:Nat) (f:(Nat→α)→B64),zlr d (fun i=>(L i).filter (p i)) n f=zlr d L n (fun g=>if ztl n (fun i=>p i (g i)) then f g else 0#64)
 | 0,f=>rfl
 | n+1,f=>by
  simp only [zlr]
  rw [zj0]
  refine za8 fun e _=>?_
  have key:∀ g:Nat→α,ztl (n+1) (fun i=>p i (zio g n e i))=(ztl n (fun i=>p i (g i)) && p n e):=by
   intro g
   rw [zt0]
   congr 1
   ·unfold ztl
    rw [Bool.eq_iff_iff]
    simp only [List.all_eq_true,List.mem_range]
    constructor
    ·intro h i hi;have:=h i hi;rw [show zio g n e i=g i by simp [zio];omega] at this;exact this
    ·intro h i hi;rw [show zio g n e i=g i by simp [zio];omega];exact h i hi
   ·simp [zio]
  by_cases he:p n e=true
  ·rw [if_pos he,zkj d L p n]
   refine zc8 d L n _ _ fun g _=>?_
   rw [key,he,Bool.and_true]
  ·rw [if_neg he]
   rw [zc8 d L n _ (fun _=>0#64) fun g _=>?_,zg7]
   rw [key]
   simp [he]
def zgn (f:Nat→B64):Nat→B64
 | 0=>1#64
 | n+1=>zgn f n*f n
theorem zog {f g:Nat→B64}:∀ (n:Nat),(∀ i,i<n→f i=g i)→zgn f n=zgn g n
 | 0,_=>rfl
 | n+1,h=>by simp only [zgn];rw [zog n fun i hi=>h i (by omega),h n (by omega)]
theorem zt3 {α:Type} (w:α→B64) (g:Nat→α) (n:Nat) (e:α):zgn (fun i=>w (zio g n e i)) (n+1)=zgn (fun i=>w (g i)) n*w e:=by
 simp only [zgn]
 rw [zog (f:=fun i=>w (zio g n e i)) (g:=fun i=>w (g i)) n fun i hi=>by simp [zio,Nat.ne_of_lt hi]]
 simp [zio]
theorem zvw {α:Type} (d:α) (L:Nat→List α) (w:α→B64):∀ (n:Nat),zlr d L n (fun g=>zgn (fun i=>w (g i)) n)=zgn (fun i=>zb0 (L i) w) n
 | 0=>rfl
 | n+1=>by
  show zb0 (L n) (fun e=>zlr d L n (fun g=>zgn (fun i=>w (zio g n e i)) (n+1)))=zgn (fun i=>zb0 (L i) w) n*zb0 (L n) w
  rw [za8 (g:=fun e=>w e*zgn (fun i=>zb0 (L i) w) n) fun e _=>?_,zyg,BitVec.mul_comm]
  simp only [zt3]
  rw [zth,zvw d L w n,BitVec.mul_comm]
abbrev H4:=Int×Int×Int×Int
def zz7 (h:H4) (p:Nat):Int:=match p with|0=>h.1|1=>h.2.1|2=>h.2.2.1|_=>h.2.2.2
def ykp (h:H4) (p:Nat) (z:Int):H4:=match p with|0=>(z,h.2)|1=>(h.1,z,h.2.2)|2=>(h.1,h.2.1,z,h.2.2.2)|_=>(h.1,h.2.1,h.2.2.1,z)
def zd9 (ps:List Nat) (z:Int) (h:H4):H4:=ps.foldl (fun h p=>ykp h p z) h
structure Stp where
 us:List (Nat×Nat)
 ps:List Nat
def zmz:List (Nat×Nat)→Nat→Nat
 | [],_=>0
 | u :: us,i=>(if u.1=i then u.2 else 0)+zmz us i
def zk7:List Stp→Nat→Nat
 | [],_=>0
 | st :: sts,i=>zk7 sts i+zmz st.us i
structure zjv (na:Nat) (st:Stp):Prop where
 ne:st.us≠[]
 nodup:(st.us.map (·.1)).Nodup
 at4:∀ u∈st.us,u.1<na∧1≤u.2
 len:st.us.length≤na
 pl:∀ p∈st.ps,p<4
 pln:st.ps.length≤4
theorem zet {us:List (Nat×Nat)} {i:Nat} (h:i ∉ us.map (·.1)):zmz us i=0:=by
 induction us with
 | nil=>rfl
 | cons u us ih =>
  simp only [List.map_cons,List.mem_cons,not_or] at h
  simp only [zmz]
  rw [if_neg (fun e=>h.1 e.symm),ih h.2]
theorem ziy {us:List (Nat×Nat)} (hn:(us.map (·.1)).Nodup) {u:Nat×Nat} (h:u∈us):zmz us u.1=u.2:=by
 induction us with
 | nil=>cases h
 | cons v us ih =>
  simp only [List.map_cons,List.nodup_cons] at hn
  simp only [zmz]
  rcases List.mem_cons.1 h with rfl|h
  ·rw [if_pos rfl,zet hn.1];rfl
  ·have hne:v.1≠u.1:=fun e=>hn.1 (by rw [e];exact List.mem_map.2 ⟨u,h,rfl⟩)
   rw [if_neg hne,ih hn.2 h,Nat.zero_add]
theorem zgh (z:Int):∀ (us:List (Nat×Nat)) (S:Nat→Src) (i:Nat),(us.map (·.1)).Nodup→zht z us S i=zqg z (zmz us i) (S i)
 | [],S,i,_=>rfl
 | u :: us,S,i,hn=>by
  simp only [List.map_cons,List.nodup_cons] at hn
  show zht z us (zsp z S u) i=_
  rw [zgh z us _ i hn.2]
  simp only [zmz,zsp]
  by_cases h:u.1=i
  ·subst h
   rw [if_pos rfl,zcr,zet hn.1]
   rfl
  ·rw [if_neg h,zd6 _ _ (fun e=>h e.symm),Nat.zero_add]
theorem yea (z:Int) (s:Src):∀ k,(zqg z k s).c=s.c+k
 | 0=>rfl
 | k+1=>by show (zqg z k s).c+1=_;rw [yea z s k];omega
theorem zum (l:List (List zai)):(l.filter fun r=>!r.isEmpty).flatten=l.flatten:=by
 induction l with
 | nil=>rfl
 | cons a l ih =>
  rw [List.filter_cons]
  cases a with
  | nil=>simpa using ih
  | cons x xs=>simp [ih]
theorem zm5 {c:Nat} {rs:List (List zai)} (h:∀ r∈rs,zbk c r) (z:Int):(zcy c z rs).flatten=rs.flatten.filter fun e=>decide (zal e.1 c=z):=by
 unfold zcy
 rw [zum]
 induction rs with
 | nil=>rfl
 | cons r rs ih =>
  rw [List.map_cons,List.flatten_cons,List.flatten_cons,List.filter_append,ih fun q hq=>h q (List.mem_cons_of_mem _ hq)]
  congr 1
  exact yey (h r (List.mem_cons_self ..)) z
def zee (z:Int) (c k:Nat) (e:zai):Bool:=ztl k fun j=>decide (zal e.1 (c+j)=z)
theorem zo8 (z:Int) {s:Src}:∀ k,zcl k s→(zqg z k s).rs.flatten=s.rs.flatten.filter (zee z s.c k)
 | 0,_=>by
  show s.rs.flatten=_
  rw [List.filter_eq_self.2]
  intro e _
  rfl
 | k+1,h=>by
  have h1:zcl (1+k) s:=by rw [Nat.add_comm];exact h
  have h2:=zcl.zqg z k h1
  show (zcy (zqg z k s).c z (zqg z k s).rs).flatten=_
  rw [zm5 (fun r hr=>(h2.lex r hr).1),zo8 z k (h.down (Nat.le_succ k)),List.filter_filter,yea]
  congr 1
  funext e
  unfold zee
  rw [zt0,Bool.and_comm]
def wtB (e:zai):B64:=BitVec.ofInt 64 e.2
def zc0 (us:List (Nat×Nat)) (cs:Nat→Nat) (g:Nat→zai) (z:Int):Bool:=us.all fun u=>zee z (cs u.1) u.2 (g u.1)
def zOf (us:List (Nat×Nat)) (cs:Nat→Nat) (g:Nat→zai):Int:=match us with | []=>0|u :: _=>zal (g u.1).1 (cs u.1)
def zep:List Stp→(Nat→Nat)→H4→(Nat→zai)→Option H4
 | [],_,row,_=>some row
 | st :: sts,cs,row,g=>if zc0 st.us cs g (zOf st.us cs g) then zep sts (fun i=>cs i+zmz st.us i) (zd9 st.ps (zOf st.us cs g) row) g else none
def zcm (S:Nat→Src) (i:Nat):List zai:=(S i).rs.flatten
def zti (na:Nat) (sts:List Stp) (S:Nat→Src) (row h:H4):B64:=
 zlr zct (zcm S) na fun g=>if zep sts (fun i=>(S i).c) row g=some h then zgn (fun i=>wtB (g i)) na else 0#64
theorem zvz {us:List (Nat×Nat)} {cs:Nat→Nat} {g:Nat→zai} {z:Int} (hne:us≠[]) (h1:∀ u∈us,1≤u.2) (h:zc0 us cs g z=true):z=zOf us cs g:=by
 cases us with
 | nil=>exact absurd rfl hne
 | cons u us =>
  unfold zc0 at h
  rw [List.all_eq_true] at h
  have h2:=h u (List.mem_cons_self ..)
  unfold zee at h2
  rw [zez] at h2
  have h3:=h2 0 (by have:=h1 u (List.mem_cons_self ..);omega)
  simp at h3
  exact h3.symm
theorem zps {na:Nat} {us:List (Nat×Nat)} (hn:(us.map (·.1)).Nodup) (ha:∀ u∈us,u.1<na) (cs:Nat→Nat) (g:Nat→zai) (z:Int) :
  ztl na (fun i=>zee z (cs i) (zmz us i) (g i))=zc0 us cs g z:=by
 rw [Bool.eq_iff_iff,zez]
 unfold zc0
 rw [List.all_eq_true]
 constructor
 ·intro h u hu
  have:=h u.1 (ha u hu)
  rwa [ziy hn hu] at this
 ·intro h i hi
  by_cases hm:i∈us.map (·.1)
  ·obtain ⟨u,hu,rfl⟩:=List.mem_map.1 hm
   rw [ziy hn hu]
   exact h u hu
  ·rw [zet hm]
   rfl
theorem yib {na:Nat} {st:Stp} {sts:List Stp} {S:Nat→Src} (hst:zjv na st) (hS:∀ i,i<na→zcl (zk7 (st :: sts) i) (S i)) (z:Int) (row h:H4) :
  zti na sts (zht z st.us S) row h=zlr zct (zcm S) na fun g=>if zc0 st.us (fun i=>(S i).c) g z then (if zep sts (fun i=>(S i).c+zmz st.us i) row g=some h then zgn (fun i=>wtB (g i)) na else 0#64) else 0#64:=by
 have hl:∀ i,i<na→zcm (zht z st.us S) i=(zcm S i).filter (zee z (S i).c (zmz st.us i)):=by
  intro i hi
  unfold zcm
  rw [zgh z _ _ _ hst.nodup]
  refine zo8 z _ ((hS i hi).down ?_)
  show _≤zk7 sts i+zmz st.us i
  omega
 have hc:(fun i=>(zht z st.us S i).c)=fun i=>(S i).c+zmz st.us i:=by
  funext i
  rw [zgh z _ _ _ hst.nodup,yea]
 unfold zti
 rw [hc,zmn zct na _ hl,zkj]
 refine zc8 _ _ _ _ _ fun g _=>?_
 rw [zps (cs:=fun i=>(S i).c) hst.nodup (fun u hu=>(hst.at4 u hu).1)]
theorem yfl {na:Nat} {st:Stp} {sts:List Stp} {S:Nat→Src} (hst:zjv na st) (hS:∀ i,i<na→zcl (zk7 (st :: sts) i) (S i)) (V:List Int) (hV:V.Nodup) (hall:∀ z,zkn st.us S z→z∈V) (row h:H4) :
  zti na (st :: sts) S row h=zb0 V fun z=>zti na sts (zht z st.us S) (zd9 st.ps z row) h:=by
 rw [za8 fun z _=>yib hst hS z (zd9 st.ps z row) h,zvv]
 unfold zti
 refine zc8 _ _ _ _ _ fun g hg=>?_
 obtain ⟨z0,hz0⟩:∃ z0,z0=zOf st.us (fun i=>(S i).c) g:=⟨_,rfl⟩
 obtain ⟨c0,hc0⟩:∃ c0,c0=(if zc0 st.us (fun i=>(S i).c) g z0 then (if zep sts (fun i=>(S i).c+zmz st.us i) (zd9 st.ps z0 row) g=some h then zgn (fun i=>wtB (g i)) na else 0#64) else 0#64):=⟨_,rfl⟩
 rw [za8 (g:=fun z=>if z=z0 then c0 else 0#64) fun z _=>?_,znt V hV]
 ·simp only [zep]
  rw [← hz0]
  by_cases hu:zc0 st.us (fun i=>(S i).c) g z0=true
  ·have hin:z0∈V:=by
    refine hall z0 fun u hu'=>?_
    unfold zc0 at hu
    rw [List.all_eq_true] at hu
    have h2:=hu u hu'
    unfold zee at h2
    rw [zez] at h2
    have h3:=h2 0 (by have:=(hst.at4 u hu').2;omega)
    simp at h3
    have h4:=hg u.1 (hst.at4 u hu').1
    unfold zcm at h4
    obtain ⟨r,hr,he⟩:=List.mem_flatten.1 h4
    exact ⟨r,hr,_,he,h3⟩
   rw [if_pos hin,hc0,if_pos hu,if_pos hu]
  ·rw [if_neg hu,hc0,if_neg hu]
   simp
 ·by_cases hz:z=z0
  ·subst hz
   rw [if_pos rfl,hc0]
  ·rw [if_neg hz,if_neg]
   intro hu
   exact hz ((zvz hst.ne (fun u hu=>(hst.at4 u hu).2) hu).trans hz0.symm)
theorem zrt {na:Nat} {sts:List Stp} {S:Nat→Src} {i:Nat} (hi:i<na) (h0:(S i).rs=[]) (row h:H4):zti na sts S row h=0#64:=
 zrs _ (i:=i) (by unfold zcm;rw [h0];rfl) _ _ hi
theorem ydx {na:Nat} {st:Stp} {S:Nat→Src} {z:Int} (hst:zjv na st) (h:zf0 z st.us S=false):∃ i,i<na∧(zht z st.us S i).rs=[]:=by
 unfold zf0 at h
 rw [List.all_eq_false] at h
 obtain ⟨k,hk,hl⟩:=h
 have hk':=List.mem_range.1 hk
 have hu:st.us[k]?.getD (0,0)∈st.us:=by simp [hk']
 refine ⟨(st.us[k]?.getD (0,0)).1,(hst.at4 _ hu).1,?_⟩
 have he:zm3 z st.us S k=[]:=by simpa using hl
 have hn1:((st.us.take (k+1)).map (·.1)).Nodup:=by rw [List.map_take];exact hst.nodup.sublist (List.take_sublist ..)
 have hm:st.us[k]?.getD (0,0)∈st.us.take (k+1):=by
  have e1:st.us[k]?.getD (0,0)=st.us[k]:=by simp [hk']
  rw [e1,List.take_succ_eq_append_getElem hk']
  exact List.mem_append_right _ (List.mem_singleton.2 rfl)
 unfold zm3 at he
 rw [zgh z _ _ _ hn1,ziy hn1 hm] at he
 rw [zgh z _ _ _ hst.nodup,ziy hst.nodup hu]
 exact he
theorem yia (na:Nat) (S:Nat→Src) (row h:H4):zti na [] S row h=if row=h then zgn (fun i=>zb0 (zcm S i) wtB) na else 0#64:=by
 unfold zti
 by_cases e:row=h
 ·subst e
  simp only [zep,if_true]
  exact zvw _ _ _ _
 ·rw [if_neg e,zc8 _ _ _ _ (fun _=>0#64) fun g _=>?_,zg7]
  exact if_neg fun e2=>e (Option.some.inj e2)
end Go.Proofs.YtoifcnidhfnapabGreatDoor
namespace Go.Proofs.YtoifcnidhfnapabGreatDoor
open Go.RowKit Go.Maps Go.Sort Go.Shelf
theorem zg3 (x:Int):BitVec.ofInt 64 (wrap64 x)=BitVec.ofInt 64 x:=by
 apply BitVec.eq_of_toInt_eq
 rw [BitVec.toInt_ofInt,BitVec.toInt_ofInt]
 unfold wrap64
 simp only [Int.bmod]
 omega
theorem zrh:∀ (es:List zai) (s:Int),BitVec.ofInt 64 (yb2 es s)=BitVec.ofInt 64 s+zb0 es wtB
 | [],s=>by simp [yb2,zb0]
 | e :: es,s=>by
  show BitVec.ofInt 64 (yb2 es (wrap64 (s+e.2)))=_
  rw [zrh es,zg3,BitVec.ofInt_add]
  simp only [zb0,wtB]
  rw [BitVec.add_assoc]
theorem zg2:∀ (rs:List (List zai)) (s:Int),BitVec.ofInt 64 (rs.foldl (fun s r=>yb2 r s) s)=BitVec.ofInt 64 s+zb0 rs.flatten wtB
 | [],s=>by simp [zb0]
 | r :: rs,s=>by
  rw [List.foldl_cons,zg2 rs,zrh,List.flatten_cons,zbg,BitVec.add_assoc]
theorem zsv (rs:List (List zai)):BitVec.ofInt 64 (zem rs)=zb0 rs.flatten wtB:=by
 unfold zem
 rw [zg2]
 simp
theorem zpc (rss:Nat→List (List zai)):∀ n,BitVec.ofInt 64 (zpe rss n)=zgn (fun i=>zb0 (rss i).flatten wtB) n
 | 0=>rfl
 | n+1=>by
  show BitVec.ofInt 64 (wrap64 (zpe rss n*zem (rss n)))=_
  rw [zg3,BitVec.ofInt_mul,zpc rss n,zsv]
  rfl
structure SOK (na:Nat) (sts:List Stp) (S:Nat→Src):Prop where
 na4:na≤4
 ok:∀ i,i<na→zcl (zk7 sts i) (S i)
 full:∀ i,i<4→∀ r∈(S i).rs,r≠[]
 wf:∀ i,i<na→∀ e∈zcm S i,zaw e.1
 small:∀ i,i<na→(zcm S i).length≤100000000000
theorem zou {na:Nat} {st:Stp} {sts:List Stp} {S:Nat→Src} (hst:zjv na st) (hS:∀ i,i<na→zcl (zk7 (st :: sts) i) (S i)) (z:Int) (i:Nat) (hi:i<na):zcm (zht z st.us S) i=(zcm S i).filter (zee z (S i).c (zmz st.us i)):=by
 unfold zcm
 rw [zgh z _ _ _ hst.nodup]
 refine zo8 z _ ((hS i hi).down ?_)
 show _≤zk7 sts i+zmz st.us i
 omega
theorem SOK.nar {na:Nat} {st:Stp} {sts:List Stp} {S:Nat→Src} (h:SOK na (st :: sts) S) (hst:zjv na st) (z:Int):SOK na sts (zht z st.us S) where
 na4:=h.na4
 ok:=fun i hi=>by
  rw [zgh z _ _ _ hst.nodup]
  exact zcl.zqg z _ (h.ok i hi)
 full:=fun i hi=>by
  by_cases hin:i<na
  ·rw [zgh z _ _ _ hst.nodup]
   exact (zcl.zqg (n:=zk7 sts i) z _ (h.ok i hin)).full
  ·rw [zgh z _ _ _ hst.nodup,zet fun hm=>?_]
   ·exact h.full i hi
   ·obtain ⟨u,hu,rfl⟩:=List.mem_map.1 hm
    exact hin (hst.at4 u hu).1
 wf:=fun i hi e he=>by
  rw [zou hst h.ok z i hi] at he
  exact h.wf i hi e (List.mem_filter.1 he).1
 small:=fun i hi=>by
  rw [zou hst h.ok z i hi]
  exact Nat.le_trans (List.length_filter_le _ _) (h.small i hi)
theorem SOK.use {na:Nat} {st:Stp} {sts:List Stp} {S:Nat→Src} (h:SOK na (st :: sts) S) (hst:zjv na st) {u:Nat×Nat} (hu:u∈st.us):u.1<4∧zcl u.2 (S u.1):=by
 have h1:=hst.at4 u hu
 refine ⟨by have:=h.na4;omega,(h.ok u.1 h1.1).down ?_⟩
 show _≤zk7 sts u.1+zmz st.us u.1
 rw [ziy hst.nodup hu]
 omega
theorem SOK.uses {na:Nat} {st:Stp} {sts:List Stp} {S:Nat→Src} (h:SOK na (st :: sts) S) (hst:zjv na st) (z:Int):∀ k,k<st.us.length→(st.us[k]?.getD (0,0)).1<4∧zcl (st.us[k]?.getD (0,0)).2 (zht z (st.us.take k) S (st.us[k]?.getD (0,0)).1):=by
 intro k hk
 have hu:st.us[k]?.getD (0,0)∈st.us:=by simp [hk]
 obtain ⟨h1,h2⟩:=h.use hst hu
 have hn1:((st.us.take k).map (·.1)).Nodup:=by rw [List.map_take];exact hst.nodup.sublist (List.take_sublist ..)
 refine ⟨h1,?_⟩
 rw [zgh z _ _ _ hn1,zet fun hm=>?_]
 ·exact h2
 ·rw [List.map_take] at hm
  obtain ⟨j,hj,e⟩:=List.getElem_of_mem hm
  simp only [List.length_take,List.length_map] at hj
  rw [List.getElem_take,List.getElem_map] at e
  have e2:(st.us.map (·.1))[j]'(by simp;omega)=(st.us.map (·.1))[k]'(by simpa using hk):=by
   rw [List.getElem_map,List.getElem_map,e]
   simp [hk]
  have:=(List.getElem_inj hst.nodup).1 e2
  omega
theorem SOK.uses1 {na:Nat} {st:Stp} {sts:List Stp} {S:Nat→Src} (h:SOK na (st :: sts) S) (hst:zjv na st):∀ k,k<st.us.length→(st.us[k]?.getD (0,0)).1<4∧zcl 1 (S (st.us[k]?.getD (0,0)).1):=by
 intro k hk
 have hu:st.us[k]?.getD (0,0)∈st.us:=by simp [hk]
 obtain ⟨h1,h2⟩:=h.use hst hu
 exact ⟨h1,h2.down (hst.at4 _ hu).2⟩
theorem ycg (s:Src) (z:Int):above s z≤s.rs.flatten.length:=by
 unfold above
 exact List.countP_le_length
theorem SOK.above {na:Nat} {st:Stp} {sts:List Stp} {S:Nat→Src} (h:SOK na (st :: sts) S) (hst:zjv na st) (z:Int):zdf st.us S z≤1000000000000:=by
 have key:∀ us:List (Nat×Nat),(∀ u∈us,u.1<na)→zdf us S z≤us.length*100000000000:=by
  intro us
  induction us with
  | nil=>intro _;simp [zdf]
  | cons u us ih =>
   intro hu
   have h1:=ih fun v hv=>hu v (List.mem_cons_of_mem _ hv)
   have h2:=ycg (S u.1) z
   have h3:=h.small u.1 (hu u (List.mem_cons_self ..))
   unfold zcm at h3
   unfold zdf at h1 ⊢
   simp only [List.map_cons,List.sum_cons,List.length_cons]
   omega
 have h1:=key st.us fun u hu=>(hst.at4 u hu).1
 have h2:=hst.len
 have h3:=h.na4
 have:st.us.length*100000000000≤4*100000000000:=Nat.mul_le_mul_right _ (by omega)
 omega
theorem zpy {x:Int} (h:wfI x):-9223372036854775808≤x∧x≤9223372036854775807:=by
 unfold wfI at h
 simp only [Lit.wf,IntKind.min,IntKind.max,IntKind.signed,IntKind.bits,Bool.and_eq_true,decide_eq_true_eq,if_true] at h
 omega
theorem yfo {r:Row} (h:zaw r) (c:Nat):-9223372036854775808≤zal r c∧zal r c≤9223372036854775807:=by
 obtain ⟨h1,h2,h3⟩:=h
 match c with
 | 0=>exact zpy h1
 | 1=>exact zpy h2
 | c+2=>exact zpy h3
theorem SOK.range {na:Nat} {st:Stp} {sts:List Stp} {S:Nat→Src} (h:SOK na (st :: sts) S) (hst:zjv na st) (z:Int) (hz:zkn st.us S z):-9223372036854775808≤z∧z≤9223372036854775807:=by
 cases hus:st.us with
 | nil=>exact absurd hus hst.ne
 | cons u us =>
  have hu:u∈st.us:=by rw [hus];exact List.mem_cons_self ..
  obtain ⟨r,hr,e,he,rfl⟩:=hz u hu
  exact yfo (h.wf u.1 (hst.at4 u hu).1 e (List.mem_flatten.2 ⟨r,hr,he⟩)) _
theorem ydj (h:H4) (p q:Nat) (z:Int) (hp:p<4) (hq:q<4):zz7 (ykp h p z) q=if p=q then z else zz7 h q:=by
 match p,hp with
 | 0,_=>match q,hq with|0,_=>rfl|1,_=>rfl|2,_=>rfl|3,_=>rfl
 | 1,_=>match q,hq with|0,_=>rfl|1,_=>rfl|2,_=>rfl|3,_=>rfl
 | 2,_=>match q,hq with|0,_=>rfl|1,_=>rfl|2,_=>rfl|3,_=>rfl
 | 3,_=>match q,hq with|0,_=>rfl|1,_=>rfl|2,_=>rfl|3,_=>rfl
theorem zgr {z:Int} {q:Nat} (hq:q<4):∀ (ps:List Nat) (h:H4),(∀ p∈ps,p<4)→zz7 (zd9 ps z h) q=if q∈ps then z else zz7 h q
 | [],h,_=>by simp [zd9]
 | p :: ps,h,hp=>by
  show zz7 (zd9 ps z (ykp h p z)) q=_
  rw [zgr hq ps _ fun u hu=>hp u (List.mem_cons_of_mem _ hu),ydj _ _ _ _ (hp p (List.mem_cons_self ..)) hq]
  by_cases h1:q∈ps
  ·simp [h1]
  ·by_cases h2:p=q
   ·simp [h1,h2]
   ·have h3:¬ q=p:=fun e=>h2 e.symm
    simp [h1,h2,h3]
theorem yij {a b:H4} (h:∀ q,q<4→zz7 a q=zz7 b q):a=b:=by
 obtain ⟨a0,a1,a2,a3⟩:=a
 obtain ⟨b0,b1,b2,b3⟩:=b
 have h0:a0=b0:=h 0 (by omega)
 have h1:a1=b1:=h 1 (by omega)
 have h2:a2=b2:=h 2 (by omega)
 have h3:a3=b3:=h 3 (by omega)
 rw [h0,h1,h2,h3]
def WfH (h:H4):Prop:=wfI h.1∧wfI h.2.1∧wfI h.2.2.1∧wfI h.2.2.2
theorem zdn {z:Int} (h:-9223372036854775808≤z∧z≤9223372036854775807):wfI z:=by
 unfold wfI
 simp only [Lit.wf,IntKind.min,IntKind.max,IntKind.signed,IntKind.bits,Bool.and_eq_true,decide_eq_true_eq,if_true]
 omega
theorem WfH.set {h:H4} (hh:WfH h) {z:Int} (hz:wfI z) (p:Nat):WfH (ykp h p z):=by
 obtain ⟨h0,h1,h2,h3⟩:=hh
 match p with
 | 0=>exact ⟨hz,h1,h2,h3⟩
 | 1=>exact ⟨h0,hz,h2,h3⟩
 | 2=>exact ⟨h0,h1,hz,h3⟩
 | p+3=>exact ⟨h0,h1,h2,hz⟩
theorem WfH.zd9 {z:Int} (hz:wfI z):∀ (ps:List Nat) {h:H4},WfH h→WfH (zd9 ps z h)
 | [],h,hh=>hh
 | p :: ps,h,hh=>WfH.zd9 hz ps (hh.set hz p)
def zmr (ys:List (H4×Int)) (h:H4):B64:=zb0 ys fun y=>if y.1=h then BitVec.ofInt 64 y.2 else 0#64
theorem zp1 (a b:List (H4×Int)) (h:H4):zmr (a ++ b) h=zmr a h+zmr b h:=zbg _ _ _
theorem zxu (ps:List Nat) (hp:∀ p∈ps,p<4) (z z':Int) (h:H4):zd9 ps z (zd9 ps z' h)=zd9 ps z h:=by
 refine yij fun q hq=>?_
 rw [zgr hq ps _ hp,zgr hq ps _ hp,zgr hq ps _ hp]
 split <;> rfl
def znm (f:Nat→Nat):Nat→Nat
 | 0=>1
 | n+1=>znm f n*f n
theorem zg0 {f g:Nat→Nat}:∀ (n:Nat),(∀ i,i<n→f i≤g i)→znm f n≤znm g n
 | 0,_=>Nat.le_refl _
 | n+1,h=>Nat.mul_le_mul (zg0 n fun i hi=>h i (by omega)) (h n (by omega))
theorem zo9 {f g:Nat→Nat} (n:Nat) (h:∀ i,i<n→f i=g i):znm f n=znm g n:=
 Nat.le_antisymm (zg0 n fun i hi=>Nat.le_of_eq (h i hi)) (zg0 n fun i hi=>Nat.le_of_eq (h i hi).symm)
theorem zkb {f:Nat→Nat} {i0 a:Nat}:∀ (n:Nat),i0<n→znm (fun i=>if i=i0 then a else f i) n=a*znm (fun i=>if i=i0 then 1 else f i) n
 | 0,h=>absurd h (Nat.not_lt_zero _)
 | n+1,h=>by
  simp only [znm]
  by_cases e:i0=n
  ·subst e
   rw [zo9 (g:=f) i0 fun i hi=>by simp [Nat.ne_of_lt hi],zo9 (f:=fun i=>if i=i0 then 1 else f i) (g:=f) i0 fun i hi=>by simp [Nat.ne_of_lt hi]]
   simp [Nat.mul_comm]
  ·rw [zkb n (by omega)]
   have hn:n≠i0:=fun e'=>e e'.symm
   simp only [if_neg hn]
   rw [Nat.mul_assoc]
def zmm (na:Nat) (S:Nat→Src):Nat:=znm (fun i=>(zcm S i).length) na
theorem zue (x:Int):∀ (V:List Int),V.Nodup→(V.map fun z=>if x=z then 1 else 0).sum≤1
 | [],_=>Nat.zero_le _
 | z :: V,h=>by
  rw [List.nodup_cons] at h
  simp only [List.map_cons,List.sum_cons]
  by_cases e:x=z
  ·subst e
   have h0:(V.map fun z=>if x=z then 1 else 0).sum=0:=by
    have:∀ (U:List Int),x ∉ U→(U.map fun z=>if x=z then 1 else 0).sum=0:=by
     intro U
     induction U with
     | nil=>intro _;rfl
     | cons u U ih =>
      intro hu
      simp only [List.mem_cons,not_or] at hu
      simp [hu.1,ih hu.2]
    exact this V h.1
   rw [h0];simp
  ·have:=zue x V h.2
   simp [e,this]
theorem zrq (c:Nat):∀ (L:List zai) (V:List Int),V.Nodup→(V.map fun z=>(L.filter fun e=>decide (zal e.1 c=z)).length).sum≤L.length
 | [],V,_=>by
  have:∀ U:List Int,(U.map fun z=>(([]:List zai).filter fun e=>decide (zal e.1 c=z)).length).sum=0:=by
   intro U
   induction U with
   | nil=>rfl
   | cons u U ih=>simpa using ih
  rw [this];simp
 | e :: L,V,hV=>by
  have h1:=zrq c L V hV
  have h2:=zue (zal e.1 c) V hV
  have hf:∀ z,((e :: L).filter fun e=>decide (zal e.1 c=z)).length=(if zal e.1 c=z then 1 else 0)+(L.filter fun e=>decide (zal e.1 c=z)).length:=by
   intro z
   rw [List.filter_cons]
   by_cases hz:zal e.1 c=z
   ·rw [if_pos (by simpa using hz),if_pos hz,List.length_cons,Nat.add_comm]
   ·rw [if_neg (by simpa using hz),if_neg hz,Nat.zero_add]
  have h3:∀ U:List Int,(U.map fun z=>((e :: L).filter fun e=>decide (zal e.1 c=z)).length).sum=(U.map fun z=>if zal e.1 c=z then 1 else 0).sum+(U.map fun z=>(L.filter fun e=>decide (zal e.1 c=z)).length).sum:=by
   intro U
   induction U with
   | nil=>rfl
   | cons u U ih =>
    simp only [List.map_cons,List.sum_cons]
    rw [ih,hf u]
    omega
  rw [h3,List.length_cons]
  omega
theorem zvs {na:Nat} {st:Stp} {sts:List Stp} {S:Nat→Src} (hst:zjv na st) (hS:SOK na (st :: sts) S) (V:List Int) (hV:V.Nodup):(V.map fun z=>zmm na (zht z st.us S)).sum≤zmm na S:=by
 cases hus:st.us with
 | nil=>exact absurd hus hst.ne
 | cons u us =>
  have hu:u∈st.us:=by rw [hus];exact List.mem_cons_self ..
  have h1:=hst.at4 u hu
  obtain ⟨R,hR⟩:∃ R,R=znm (fun i=>if i=u.1 then 1 else (zcm S i).length) na:=⟨_,rfl⟩
  have key:∀ z,zmm na (zht z (u :: us) S)≤((zcm S u.1).filter fun e=>decide (zal e.1 (S u.1).c=z)).length*R:=by
   intro z
   rw [hR,← zkb na h1.1]
   unfold zmm
   refine zg0 na fun i hi=>?_
   rw [← hus,zou hst hS.ok z i hi]
   by_cases e:i=u.1
   ·subst e
    rw [if_pos rfl]
    rw [← List.countP_eq_length_filter,← List.countP_eq_length_filter]
    refine List.countP_mono_left fun e _ he=>?_
    unfold zee at he
    rw [zez] at he
    rw [ziy hst.nodup hu] at he
    have:=he 0 (by omega)
    simpa using this
   ·rw [if_neg e];exact List.length_filter_le _ _
  have hsum:∀ U:List Int,(U.map fun z=>zmm na (zht z (u :: us) S)).sum≤(U.map fun z=>((zcm S u.1).filter fun e=>decide (zal e.1 (S u.1).c=z)).length).sum*R:=by
   intro U
   induction U with
   | nil=>simp
   | cons z U ih =>
    simp only [List.map_cons,List.sum_cons]
    have:=key z
    rw [Nat.add_mul]
    omega
  refine Nat.le_trans (hsum V) (Nat.le_trans (Nat.mul_le_mul_right R (zrq _ _ V hV)) ?_)
  rw [hR,← zkb na h1.1]
  unfold zmm
  refine zg0 na fun i hi=>?_
  by_cases e:i=u.1
  ·subst e;simp
  ·simp [e]
theorem zx7 {rs:List (List zai)} (h:rs.flatten=[]):zem rs=0:=by
 have:∀ (rs:List (List zai)) (s:Int),rs.flatten=[]→rs.foldl (fun s r=>yb2 r s) s=s:=by
  intro rs
  induction rs with
  | nil=>intro s _;rfl
  | cons r rs ih =>
   intro s h
   rw [List.flatten_cons,List.append_eq_nil_iff] at h
   rw [List.foldl_cons,h.1,show yb2 [] s=s from rfl,ih _ h.2]
 exact this rs 0 h
theorem zrj {rss:Nat→List (List zai)} {i:Nat} (h:zem (rss i)=0):∀ n,i<n→zpe rss n=0
 | 0,hn=>absurd hn (Nat.not_lt_zero _)
 | n+1,hn=>by
  show wrap64 (zpe rss n*zem (rss n))=0
  by_cases e:i=n
  ·subst e;rw [h,Int.mul_zero];unfold wrap64;omega
  ·rw [zrj h n (by omega),Int.zero_mul];unfold wrap64;omega
theorem zu3 {f:Nat→Nat}:∀ (n:Nat),(∀ i,i<n→1≤f i)→1≤znm f n
 | 0,_=>Nat.le_refl _
 | n+1,h=>Nat.mul_le_mul (zu3 n fun i hi=>h i (by omega)) (h n (by omega))
theorem yh8 {na:Nat} {S:Nat→Src} (h:zpe (fun i=>(S i).rs) na≠0):1≤zmm na S:=by
 refine zu3 na fun i hi=>?_
 cases he:zcm S i with
 | nil=>exact absurd (zrj (rss:=fun i=>(S i).rs) (zx7 he) na hi) h
 | cons x xs=>simp
end Go.Proofs.YtoifcnidhfnapabGreatDoor
