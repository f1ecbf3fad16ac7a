import Derived.Test.YtoifcnidhfnapaaGreatDoorB03
set_option linter.unusedVariables false
set_option linter.unusedSimpArgs false
set_option maxRecDepth 100000
set_option maxHeartbeats 16000000
namespace Go.Proofs.YtoifcnidhfnapaaGreatDoor
open Go.RowKit Go.Maps
attribute [local go_sem ↓] Go.wp_at_zero Go.wp_at_succ
theorem zck {α:Type}:∀ (l m:List α),l.Pairwise (·≠·)→(∀ x∈l,x∈m)→l.length≤m.length
 | [],_,_,_=>Nat.zero_le _
 | a :: l,m,hp,hs=>by
  obtain ⟨m1,m2,rfl⟩:=List.append_of_mem (hs a (List.mem_cons_self))
  have hp':=List.pairwise_cons.1 hp
  have ih:=zck l (m1 ++ m2) hp'.2 (fun x hx=>by
   have h1:=hs x (List.mem_cons_of_mem _ hx)
   have h2:x≠a:=fun e=>hp'.1 x hx e.symm
   simp only [List.mem_append,List.mem_cons] at h1 ⊢
   rcases h1 with h|h|h
   ·exact Or.inl h
   ·exact absurd h h2
   ·exact Or.inr h)
  simp only [List.length_append,List.length_cons] at ih ⊢
  omega
theorem zqq {es:List (Lit×DataW Unit)} {p:Lit×DataW Unit} (hp:p∈es) (hk:WideAt.IsKeyLit p.1):Maps.has (.map es) p.1=true:=by
 rw [has_eq]
 exact List.any_eq_true.2 ⟨p,hp,WideAt.sameKey_self hk⟩
theorem size_le {D:DataW Unit} {h:Row→Int} (hT:Tidy D) (hK:∀ es,D=.map es→∀ p∈es,WideAt.IsKeyLit p.1) (hr:Rep D h) (G:List Row) (hG:∀ r,zaw r→h r≠0→r∈G):Maps.size D≤G.length:=by
 obtain ⟨es,rfl,hp⟩:=hT
 have hk:=hK es rfl
 have h1:(es.map (·.1)).length≤(G.map za2).length:=by
  refine zck _ _ (List.pairwise_map.2 hp) (fun x hx=>?_)
  obtain ⟨p,hpm,rfl⟩:=List.mem_map.1 hx
  have hh:=zqq hpm (hk p hpm)
  obtain ⟨r,hw,e⟩:=hr.keys _ hh
  rw [e] at hh ⊢
  exact List.mem_map.2 ⟨r,hG r hw ((hr.has_ r hw).1 hh),rfl⟩
 simpa [size_eq] using h1
def zig (D:DataW Unit):Prop:=∀ es,D=.map es→∀ p∈es,WideAt.IsKeyLit p.1
theorem zqs {x p:Lit×DataW Unit}:∀ {l:List (Lit×DataW Unit)},p∈DataW.insert x l→p=x∨p∈l
 | [],h=>by simp [DataW.insert] at h;exact Or.inl h
 | y :: l,h=>by
  unfold DataW.insert at h
  split at h
  ·simp at h ⊢;exact h
  ·simp at h ⊢
   rcases h with h|h
   ·exact Or.inr (Or.inl h)
   ·rcases zqs h with h|h
    ·exact Or.inl h
    ·exact Or.inr (Or.inr h)
theorem zig.put {D:DataW Unit} (h:zig D) (hD:IsMap D) (r:Row) (d:DataW Unit):zig (D.put (za2 r) d):=by
 obtain ⟨es,rfl⟩:=hD
 intro es' he p hp
 simp only [DataW.put,DataW.map.injEq] at he
 subst he
 rcases zqs hp with rfl|hp
 ·exact zfg r
 ·exact h es rfl p (List.mem_filter.1 hp).1
theorem zig.del {D:DataW Unit} (h:zig D) (hD:IsMap D) (k:Lit):zig (D.del k):=by
 obtain ⟨es,rfl⟩:=hD
 intro es' he p hp
 simp only [DataW.del,DataW.map.injEq] at he
 subst he
 exact h es rfl p (List.mem_filter.1 hp).1
theorem zmh {w:World} {b n:Nat} {D:DataW Unit} (h:w.ownsMap Tryz.prog 77 (plainElem Tryz.prog 2) b n D):zig D:=by
 intro es he
 obtain ⟨es',e1,_,e3⟩:=h.entries zft
 rw [he] at e1
 cases e1
 exact e3
structure ybs (D:DataW Unit) (f g:Row→Int) (done:Row→Prop):Prop where
 tidy:Tidy D
 keyish:zig D
 rep:∃ h,Rep D h∧(∀ r,zaw r→done r→h r=f r+g r)∧∀ r,zaw r→¬ done r→h r=f r
theorem ybs.step {D:DataW Unit} {f g:Row→Int} {done:Row→Prop} (hp:ybs D f g done) {x:Row} (hx:zaw x) (hnd:¬ done x) :
  ∃ D',ybs D' f g (fun r=>done r∨r=x) ∧
   (f x+g x≠0→f x=0→Maps.size D'=Maps.size D+1)∧(f x+g x≠0→f x≠0→Maps.size D'=Maps.size D)∧(f x+g x=0→f x≠0→Maps.size D'+1=Maps.size D):=by
 obtain ⟨hT,hK,h,hr,hd,hn⟩:=hp
 have hfx:=hn x hx hnd
 have hh:=hr.has_ x hx
 rw [hfx] at hh
 by_cases hz:f x+g x=0
 ·refine ⟨D.del (za2 x),⟨hT.del _,hK.del hT.isMap _,_,hr.del hx,fun r hw hdr=>?_,fun r hw hdr=>?_⟩,fun h=>absurd hz h,fun h=>absurd hz h,fun _ h0=>?_⟩
  ·unfold upd
   by_cases e:r=x
   ·subst e;rw [if_pos rfl,hz]
   ·rw [if_neg e];exact hd r hw (hdr.resolve_right e)
  ·unfold upd
   have e:¬ r=x:=fun e=>hdr (Or.inr e)
   rw [if_neg e];exact hn r hw (fun h=>hdr (Or.inl h))
  ·have:=size_del (k:=za2 x) hT
   rw [hh.2 h0] at this
   simpa using this
 ·refine ⟨D.put (za2 x) (.lit (.int .i64 (f x+g x))),⟨hT.put (zfg x) _,hK.put hT.isMap _ _,_,hr.put hT.isMap hx hz,fun r hw hdr=>?_,fun r hw hdr=>?_⟩,fun _ h0=>?_,fun _ h0=>?_,fun h=>absurd h hz⟩
  ·unfold upd
   by_cases e:r=x
   ·subst e;rw [if_pos rfl]
   ·rw [if_neg e];exact hd r hw (hdr.resolve_right e)
  ·unfold upd
   have e:¬ r=x:=fun e=>hdr (Or.inr e)
   rw [if_neg e];exact hn r hw (fun h=>hdr (Or.inl h))
  ·have hf:Maps.has D (za2 x)=false:=by
    by_cases e:Maps.has D (za2 x)=true
    ·exact absurd h0 (hh.1 e)
    ·simpa using e
   rw [size_put hT,hf];rfl
  ·rw [size_put hT,hh.2 h0];rfl
attribute [local go_sem ↓] Go.wp_at_zero Go.wp_at_succ
theorem ybs.congr {D:DataW Unit} {f g:Row→Int} {d d':Row→Prop} (h:ybs D f g d) (he:∀ r,zaw r→(d r↔d' r)):ybs D f g d':=by
 obtain ⟨hT,hK,k,hr,h1,h2⟩:=h
 exact ⟨hT,hK,k,hr,fun r hw hd=>h1 r hw ((he r hw).2 hd),fun r hw hd=>h2 r hw (fun x=>hd ((he r hw).1 x))⟩
def zjo (Dg:DataW Unit) (left:Lit→Bool) (r:Row):Prop:=Maps.has Dg (za2 r)=true∧left (za2 r)=false
theorem zoi {Dg:DataW Unit} {left:Lit→Bool} {x:Row} (hx:zaw x) (hh:Maps.has Dg (za2 x)=true):∀ r,zaw r→((zjo Dg left r∨r=x)↔zjo Dg (fun z=>left z && !z.sameKey (za2 x)) r):=by
 intro r hr
 unfold zjo
 by_cases e:r=x
 ·subst e
  simp [hh,WideAt.sameKey_self (zfg r)]
 ·have:(za2 r).sameKey (za2 x)=false:=sameKey_ne (fun e'=>e (zd6 hr hx e'))
  simp [this,e]
theorem ybs.start {D Dg:DataW Unit} {f g:Row→Int} (hT:Tidy D) (hK:zig D) (hr:Rep D f):ybs D f g (zjo Dg (Maps.has Dg)):=
 ⟨hT,hK,f,hr,fun r _ h=>(by have h1:=h.1;rw [h.2] at h1;cases h1),fun _ _ _=>rfl⟩
theorem ybs.end_ {D Dg:DataW Unit} {f g:Row→Int} {left:Lit→Bool} (h:ybs D f g (zjo Dg left)) (hg:Rep Dg g) (hl:∀ kl,left kl=false):∃ k,Rep D k∧∀ r,zaw r→k r=f r+g r:=by
 obtain ⟨_,_,k,hr,h1,h2⟩:=h
 refine ⟨k,hr,fun r hw=>?_⟩
 by_cases hh:Maps.has Dg (za2 r)=true
 ·exact h1 r hw ⟨hh,hl _⟩
 ·have h0:g r=0:=by
   by_cases e:g r=0
   ·exact e
   ·exact absurd ((hg.has_ r hw).2 e) hh
  rw [h2 r hw (fun d=>hh d.1),h0];omega
attribute [local go_sem ↓] Go.wp_at_zero Go.wp_at_succ
theorem Rep.congr {D:DataW Unit} {f g:Row→Int} (h:Rep D f) (he:∀ r,zaw r→f r=g r):Rep D g:=
 ⟨fun r hr=>by rw [← he r hr];exact h.at_ r hr,fun r hr=>by rw [← he r hr];exact h.has_ r hr,h.keys⟩
theorem zfk.congr {w:World} {b n:Nat} {f g:Row→Int} (h:zfk w b n f) (he:∀ r,zaw r→f r=g r):zfk w b n g:=by
 obtain ⟨D,h1,h2⟩:=h
 exact ⟨D,h1,h2.congr he⟩
structure yh9 (h f g:Row→Int) (done:Row→Prop):Prop where
 yes:∀ r,zaw r→done r→h r=f r+g r
 no:∀ r,zaw r→¬ done r→h r=f r
theorem yh9.step {h f g:Row→Int} {done:Row→Prop} (hh:yh9 h f g done) {x:Row} (hx:zaw x) (hnd:¬ done x):yh9 (upd h x (h x+g x)) f g (fun r=>done r∨r=x):=by
 refine ⟨fun r hw hd=>?_,fun r hw hd=>?_⟩
 ·unfold upd
  by_cases e:r=x
  ·subst e;rw [if_pos rfl,hh.no r hx hnd]
  ·rw [if_neg e];exact hh.yes r hw (hd.resolve_right e)
 ·unfold upd
  have e:¬ r=x:=fun e=>hd (Or.inr e)
  rw [if_neg e];exact hh.no r hw (fun h=>hd (Or.inl h))
theorem yh9.congr {h f g:Row→Int} {d d':Row→Prop} (hh:yh9 h f g d) (he:∀ r,zaw r→(d r↔d' r)):yh9 h f g d':=
 ⟨fun r hw hd=>hh.yes r hw ((he r hw).2 hd),fun r hw hd=>hh.no r hw (fun x=>hd ((he r hw).1 x))⟩
theorem zc3 {w w':World} (h:Below w.heap.size w w') (row:Option Nat):w.grownBy w' row:=⟨h.os,h.tape,h.output,h.size,fun k hk _=>h.block k hk⟩
theorem yif (b n:Nat) (f:Row→Int) (x1 x2 x3:Int) (x:Int) (w:World) (h:zfk w b n f) (hn:n<2000000000) (hr:zaw (x1,x2,x3)) (h1:-1000000≤f (x1,x2,x3)) (h2:f (x1,x2,x3)≤1000000) (h3:-1000000≤x) (h4:x≤1000000) :
  Calls Tryz.prog 117 #[.map (some b),.agg #[.int .i64 x1,.int .i64 x2,.int .i64 x3],.int .i64 x] w fun e w'=>e=.returned (.tuple #[])∧zfk w' b (n+1) (upd f (x1,x2,x3) (f (x1,x2,x3)+x))∧w.grownBy w' (some b):=
 zwf b n f (x1,x2,x3) x w h hn hr h1 h2 h3 h4
theorem ya9 (rb mb ar n cb m:Nat) (f g:Row→Int) (w:World) (hr:w.heap[rb]? = some (.cells #[.int .i64 ar,.map (some mb)] 129 (0,0))) (hf:zfk w mb n f) (hg:zfk w cb m g) (hnm:n+m≤1000000000) (hcm:cb≠mb)
  (hbf:∀ r,zaw r→-100000≤f r∧f r≤100000) (hbg:∀ r,zaw r→-100000≤g r∧g r≤100000) :
  Calls Tryz.prog 124 #[.pointer (some ⟨rb,0,none⟩),.map (some cb)] w fun e w'=>e=.returned (.tuple #[])∧zfk w' mb (n+m) (fun r=>f r+g r)∧w.grownBy w' (some mb):=by
 have Hf:=zac hf
 obtain ⟨D,hown,hrep⟩:=hg
 have Hr:=zac hr
 have Hrep:=zac hrep
 have Hbf:=zac hbf
 have Hbg:=zac hbg
 have hrl:rb<w.heap.size:=(Array.getElem?_eq_some_iff.1 hr).1
 have hml:mb<w.heap.size:=hf.lt
 have hcl:cb<w.heap.size:=hown.lt
 have hszg:=hown.size_le
 have hrm:rb≠mb:=fun e=>by
  obtain ⟨_,⟨_,_,h1,_⟩,_⟩:=hf
  rw [e,h1] at hr
  cases hr
 clear hr hrep hbf hbg hf
 go_enter Tryz.func124,Tryz.ntmps124
 go_wp2_with (first
  | (at_range;refine wpList_range_own _ rfl _ 127 rfl 77 2 zft Tryz.underlying127 _ cb m D rfl hown ?_;intro w0 hrg0 hg0 hs0)
  | go_in)
 go_frame
 go_loopw [8] (fun _ wr=>∃ left cnt N h,wr.ranges Tryz.prog 77 (plainElem Tryz.prog 2) cb w.heap.size m D left cnt∧w.grownBy wr (some mb)∧zfk wr mb N h∧yh9 h f g (zjo D left)∧N+cnt≤n+m) (fun _ wr=>wr.rangeLeft cb w.heap.size)
 case atStart =>
  refine ⟨_,_,n,f,hrg0,hg0.but _,(zaa Hf).kept (hg0.block _ hml (by simp)),⟨fun r _ h=>(by have h1:=h.1;rw [h.2] at h1;cases h1),fun _ _ _=>rfl⟩,by omega⟩
 case round =>
  obtain ⟨left,cnt,N,h,hrg,hB,hW,hH,hcnt⟩:=hrel
  have HB:=zac hB
  have HW:=zac hW
  have HH:=zac hH
  clear hB hW hH
  go_wp2_with (first
   | (at_next;refine wpList_next_ranges _ rfl _ rfl 77 zft (plainElem Tryz.prog 2) (fun x:Row=>.agg #[.int .i64 x.1,.int .i64 x.2.1,.int .i64 x.2.2]) (Value.int .i64) zul zqt cb w.heap.size m D left cnt rfl hrg ?_ ?_)
   | go_in)
  ·intro _ hl0
   go_wp2
   go_end0
   refine ⟨rfl,((zaa HW).mono (by omega)).congr (fun r hw=>?_),zaa HB⟩
   by_cases hh:Maps.has D (za2 r)=true
   ·exact (zaa HH).yes r hw ⟨hh,hl0 _⟩
   ·have h0:g r=0:=by
     by_cases e:g r=0
     ·exact e
     ·exact absurd (((zaa Hrep).has_ r hw).2 e) hh
    rw [(zaa HH).no r hw (fun d=>hh d.1),h0];omega
  ·intro x1 x2 x3 c kl y1 y2 w1 cnt1 hkey hlk hv hat hrg1 hlt hg1 hs1 hen
   obtain ⟨hwx,hkl,hc⟩:=ykc (zaa Hrep) (x:=(x1,x2,x3)) (y:=(y1,y2)) hkey hv hat
   have hhas:Maps.has D (za2 (x1,x2,x3))=true:=by rw [← hkl];exact has_true_of_atKey hat
   have hnd:¬ zjo D left (x1,x2,x3):=fun h=>by have h2:=h.2;rw [hkl] at hlk;rw [hlk] at h2;cases h2
   have hH':=((zaa HH).step hwx hnd).congr (zoi hwx hhas)
   rw [← hkl] at hH'
   have hbf:=(zaa Hbf) _ hwx
   have hbg:=(zaa Hbg) _ hwx
   have hhx:=(zaa HH).no _ hwx hnd
   have hx1:-1000000≤h (x1,x2,x3):=by omega
   have hx2:h (x1,x2,x3)≤1000000:=by omega
   have hx3:-1000000≤c:=by omega
   have hx4:c≤1000000:=by omega
   have Hc:=zac hc
   clear hc hhx hbf hbg
   have hsz1:w.heap.size≤w1.heap.size:=Nat.le_trans (zaa HB).size hg1.size
   have hB1:w.grownBy w1 (some mb):=(zaa HB).andThen hg1 (fun j e=>by cases e;exact Or.inl (Nat.le_refl _))
   have hBW:w.grownBy (w1.alloc (.cells #[.int .i64 x1,.int .i64 x2,.int .i64 x3] 77)) (some mb):=hB1.andThen (World.grownBy_alloc _ _ none) (fun j e=>by cases e)
   have hWW:zfk (w1.alloc (.cells #[.int .i64 x1,.int .i64 x2,.int .i64 x3] 77)) mb N h:=((zaa HW).kept (hg1.block _ (zaa HW).lt (by simp;omega))).kept (Below.heap_alloc _ _ _ (by omega))
   have c1:w1.cell? ⟨rb,1,none⟩=some (.map (some mb)):=by rw [World.cell?_of_block (a:=⟨rb,1,none⟩) (hB1.block rb hrl (by simpa using hrm))];exact zab (zaa Hr) 1
   have hne:¬ rb=w1.heap.size:=by omega
   have hne2:rb<w1.heap.size:=by omega
   have hq':(w1.alloc (.cells #[.int .i64 x1,.int .i64 x2,.int .i64 x3] 77)).ranges Tryz.prog 77 (plainElem Tryz.prog 2) cb w.heap.size m D (fun z=>left z && !z.sameKey kl) cnt1:=hrg1.alloc _
   have Hq:=zac hq'
   have Hrg:=zac hrg
   have HBW:=zac hBW
   have HH':=zac hH'
   have HWW:=zac hWW
   have Hlt:=zac hlt
   clear hkey hlk hv hat hrg1 hrg hg1 hs1 hBW hkl hH' hq' hnd hWW hB1 hlt
   go_wp2
   have kE:(w1.alloc (.cells #[.int .i64 x1,.int .i64 x2,.int .i64 x3] 77)).heap[w1.heap.size]? = some (.cells #[.int .i64 x1,.int .i64 x2,.int .i64 x3] 77 (0,0)):=zae w1 _ _ rfl
   have c1':(w1.alloc (.cells #[.int .i64 x1,.int .i64 x2,.int .i64 x3] 77)).cell? ⟨rb,1,none⟩=some (.map (some mb)):=by rw [World.cell?_of_block (a:=⟨rb,1,none⟩) (Below.heap_alloc _ _ _ (by omega))];exact c1
   have hsW:w1.heap.size<(w1.alloc (.cells #[.int .i64 x1,.int .i64 x2,.int .i64 x3] 77)).heap.size:=by simp
   clear hen c1
   generalize w1.alloc (.cells #[.int .i64 x1,.int .i64 x2,.int .i64 x3] 77)=W at *
   have e0:W.cell? ⟨w1.heap.size,0,none⟩=some (.int .i64 x1):=zab kE 0
   have e1:W.cell? ⟨w1.heap.size,1,none⟩=some (.int .i64 x2):=zab kE 1
   have e2:W.cell? ⟨w1.heap.size,2,none⟩=some (.int .i64 x3):=zab kE 2
   clear kE
   go_region_held3 (fun W'=>W'.cell? ⟨rb,1,none⟩=some (.map (some mb))∧W'.cell? ⟨w1.heap.size,0,none⟩=some (.int .i64 x1)∧W'.cell? ⟨w1.heap.size,1,none⟩=some (.int .i64 x2)∧W'.cell? ⟨w1.heap.size,2,none⟩=some (.int .i64 x3))
    (first
     | go_keep
     | (go_split_ands;refine ⟨?_,?_,?_,?_⟩ <;> (rw [World.cell?_of_block (hg2.block _ (by simp;omega) (by simp;omega))];assumption)))
    (first
     | (go_at_call 117;refine (yif mb N h x1 x2 x3 c _ ?_ (by omega) hwx hx1 hx2 hx3 hx4).mono ?_;exact (zaa HWW);rintro e w2 ⟨rfl,hm2,hg2⟩))
   have hg2':W.grownBy w2 (some mb):=⟨hg2.os,hg2.tape,hg2.output,hg2.size,hg2.block⟩
   have hR:=(zaa Hq).kept hg2' (by simpa using hcm) (by simp;omega)
   have HR:=zac hR
   have Hg2:=zac hg2'
   have Hm2:=zac hm2
   clear hR hg2 hg2' hm2 e0 e1 e2 c1'
   go_wp2
   refine ⟨⟨_,cnt1,N+1,_,zaa HR,(zaa HBW).andThen (zaa Hg2) (fun j e=>Or.inr e),zaa Hm2,?_,by have:=zaa Hlt;omega⟩,?_⟩
   ·rw [zaa Hc];exact zaa HH'
   ·rw [(zaa HR).left_eq,(zaa Hrg).left_eq];exact zaa Hlt
attribute [local go_sem ↓] Go.wp_at_zero Go.wp_at_succ
def zkl (f g:Row→Int):Prop:=∀ r,zaw r→g r≠0→-1000≤f r+g r∧f r+g r≤1000
def zti (f g:Row→Int):Prop:=∃ G:List Row,G.length≤16∧∀ r,zaw r→f r+g r≠0→r∈G
theorem yir (rb mb ar n cb m:Nat) (f g:Row→Int) (w:World) (hr:w.heap[rb]? = some (.cells #[.int .i64 ar,.map (some mb)] 129 (0,0))) (hf:zfk w mb n f) (hg:zfk w cb m g)
  (hbf:∀ r,zaw r→-1000000≤f r∧f r≤1000000) (hbg:∀ r,zaw r→-1000000≤g r∧g r≤1000000) :
  Calls Tryz.prog 119 #[.pointer (some ⟨rb,0,none⟩),.map (some cb)] w fun e w'=>∃ b:Bool,e=.returned (.bool b)∧(b=true↔zkl f g)∧Below w.heap.size w w':=by
 obtain ⟨D,hown,hrep⟩:=hg
 have Hr:=zac hr
 have Hf:=zac hf
 have Hrep:=zac hrep
 have Hbf:=zac hbf
 have Hbg:=zac hbg
 have hrl:rb<w.heap.size:=(Array.getElem?_eq_some_iff.1 hr).1
 have hml:mb<w.heap.size:=hf.lt
 clear hr hf hrep hbf hbg
 go_enter Tryz.func119,Tryz.ntmps119
 go_wp2_with (first
  | (at_range;refine wpList_range_own _ rfl _ 127 rfl 77 2 zft Tryz.underlying127 _ cb m D rfl hown ?_;intro w0 hrg0 hg0 hs0)
  | go_in)
 go_frame
 go_loopw [10] (fun _ wr=>∃ left cnt,wr.ranges Tryz.prog 77 (plainElem Tryz.prog 2) cb w.heap.size m D left cnt∧Below w.heap.size w wr∧∀ r,zaw r→Maps.has D (za2 r)=true→left (za2 r)=false→-1000≤f r+g r∧f r+g r≤1000) (fun _ wr=>wr.rangeLeft cb w.heap.size)
 case atStart=>exact ⟨_,_,hrg0,(Below.refl _ _).grown hg0 (Nat.le_refl _) (fun k e=>by cases e),fun r _ h1 h2=>by rw [h1] at h2;cases h2⟩
 case round =>
  obtain ⟨left,cnt,hrg,hB,hD⟩:=hrel
  have HB:=zac hB
  have HD:=zac hD
  clear hB hD
  go_wp2_with (first
   | (at_next;refine wpList_next_ranges _ rfl _ rfl 77 zft (plainElem Tryz.prog 2) (fun x:Row=>.agg #[.int .i64 x.1,.int .i64 x.2.1,.int .i64 x.2.2]) (Value.int .i64) zul zqt cb w.heap.size m D left cnt rfl hrg ?_ ?_)
   | go_in)
  ·intro _ hl0
   go_wp2
   go_ret
   exact ⟨true,rfl,⟨fun _ r hr h0=>(zaa HD) r hr (((zaa Hrep).has_ r hr).2 h0) (hl0 _),fun _=>rfl⟩,zaa HB⟩
  ·intro x1 x2 x3 c kl y1 y2 w1 cnt1 hkey hlk hv hat hrg1 hlt hg1 hs1 hen
   obtain ⟨hwx,hkl,hc⟩:=ykc (zaa Hrep) (x:=(x1,x2,x3)) (y:=(y1,y2)) hkey hv hat
   have hhas:Maps.has D (za2 (x1,x2,x3))=true:=by rw [← hkl];exact has_true_of_atKey hat
   have hnz:g (x1,x2,x3)≠0:=((zaa Hrep).has_ _ hwx).1 hhas
   have hD1:(-1000≤f (x1,x2,x3)+g (x1,x2,x3)∧f (x1,x2,x3)+g (x1,x2,x3)≤1000)→∀ r,zaw r→Maps.has D (za2 r)=true→(left (za2 r) && !(za2 r).sameKey kl)=false→-1000≤f r+g r∧f r+g r≤1000:=by
    intro hx r hr h1 h2
    by_cases e:r=(x1,x2,x3)
    ·subst e;exact hx
    ·have hs:(za2 r).sameKey kl=false:=by rw [hkl];exact sameKey_ne (fun e'=>e (zd6 hr hwx e'))
     rw [hs] at h2
     exact (zaa HD) r hr h1 (by simpa using h2)
   have hno:¬ (-1000≤f (x1,x2,x3)+g (x1,x2,x3)∧f (x1,x2,x3)+g (x1,x2,x3)≤1000)→¬ zkl f g:=fun h k=>h (k _ hwx hnz)
   have HD1:=zac hD1
   have Hno:=zac hno
   have hbf:=(zaa Hbf) _ hwx
   have hbg:=(zaa Hbg) _ hwx
   have hB1:Below w.heap.size w w1:=(zaa HB).grown hg1 (zaa HB).size (fun k e=>by cases e;exact Nat.le_refl _)
   have hBW:Below w.heap.size w (w1.alloc (.cells #[.int .i64 x1,.int .i64 x2,.int .i64 x3] 77)):=hB1.alloc hB1.size _
   have hfW:zfk (w1.alloc (.cells #[.int .i64 x1,.int .i64 x2,.int .i64 x3] 77)) mb n f:=(zaa Hf).kept (hBW.block _ hml)
   have hrun:∀ q,(Instr.lookup 127 (.map (some mb)) (.agg #[.int .i64 x1,.int .i64 x2,.int .i64 x3]) false).run Tryz.prog ((w1.alloc (.cells #[.int .i64 x1,.int .i64 x2,.int .i64 x3] 77)).drewN q)=.ok (.int .i64 (f (x1,x2,x3))) ((w1.alloc (.cells #[.int .i64 x1,.int .i64 x2,.int .i64 x3] 77)).drewN q):=
    fun q=>zfk.look (x:=(x1,x2,x3)) (hfW.drewN q) hwx
   have c1:w1.cell? ⟨rb,1,none⟩=some (.map (some mb)):=by rw [hB1.cell (p:=⟨rb,1,none⟩) hrl];exact zab (zaa Hr) 1
   have hne:¬ rb=w1.heap.size:=by have:=hB1.size;omega
   have hne2:rb<w1.heap.size:=by have:=hB1.size;omega
   have Hrg1:=zac hrg1
   have Hrg:=zac hrg
   have Hg1:=zac hg1
   have HBW:=zac hBW
   generalize hfx:f (x1,x2,x3)=fx at *
   generalize hgx:g (x1,x2,x3)=gx at *
   subst hc
   have Hlt:=zac hlt
   clear hkey hlk hv hat hrg1 hrg hg1 hs1 hB1 hBW hfW hfx hgx hkl hhas hnz hD1 hno hlt
   by_cases t1:fx+c < -1000
   ·go_wp2
    go_quiet (fail)
    go_wp2
    go_ret
    exact ⟨false,rfl,⟨fun h=>(by cases h),fun h=>absurd h ((zaa Hno) (by omega))⟩,(zaa HBW).trans ((zbd.ofN _ _).below _)⟩
   ·by_cases t2:1000<fx+c
    ·go_wp2
     go_quiet (fail)
     go_wp2
     go_ret
     exact ⟨false,rfl,⟨fun h=>(by cases h),fun h=>absurd h ((zaa Hno) (by omega))⟩,(zaa HBW).trans ((zbd.ofN _ _).below _)⟩
    ·go_wp2
     go_quiet (fail)
     go_wp2
     have hq:=((zaa Hrg1).alloc (.cells #[.int .i64 x1,.int .i64 x2,.int .i64 x3] 77))
     have hq':((w1.alloc (.cells #[.int .i64 x1,.int .i64 x2,.int .i64 x3] 77)).drewN nq).ranges Tryz.prog 77 (plainElem Tryz.prog 2) cb w.heap.size m D (fun z=>left z && !z.sameKey kl) cnt1:=hq
     refine ⟨⟨_,_,hq',(zaa HBW).trans ((zbd.ofN _ _).below _),(zaa HD1) (by omega)⟩,?_⟩
     rw [hq'.left_eq,(zaa Hrg).left_eq]
     exact zaa Hlt
attribute [local go_sem ↓] Go.wp_at_zero Go.wp_at_succ
def yfp (e:Ending) (P:Prop):Prop:=∃ b:Bool,e=.returned (.bool b)∧(b=true↔P)
theorem yel {D:DataW Unit} {h:Row→Int} (hT:Tidy D) (hK:zig D) (hr:Rep D h):∃ G:List Row,G.length=Maps.size D∧∀ r,zaw r→h r≠0→r∈G:=by
 obtain ⟨es,rfl,hp⟩:=hT
 have hk:=hK es rfl
 have hx:∀ p∈es,∃ r,zaw r∧p.1=za2 r:=fun p hpm=>hr.keys _ (zqq hpm (hk p hpm))
 have hG:∀ es':List (Lit×DataW Unit),(∀ p∈es',∃ r,zaw r∧p.1=za2 r)→∃ G:List Row,G.length=es'.length∧∀ p∈es',∃ r∈G,zaw r∧p.1=za2 r:=by
  intro es'
  induction es' with
  | nil=>intro _;exact ⟨[],rfl,fun p hp=>by simp at hp⟩
  | cons q qs ih =>
   intro h
   obtain ⟨G,h1,h2⟩:=ih (fun p hp=>h p (List.mem_cons_of_mem _ hp))
   obtain ⟨r,h3,h4⟩:=h q List.mem_cons_self
   refine ⟨r :: G,by simp [h1],fun p hp=>?_⟩
   rcases List.mem_cons.1 hp with rfl|hp
   ·exact ⟨r,by simp,h3,h4⟩
   ·obtain ⟨r',h5,h6⟩:=h2 p hp
    exact ⟨r',by simp [h5],h6⟩
 obtain ⟨G,h1,h2⟩:=hG es hx
 refine ⟨G,by rw [h1];simp [size_eq],fun r hw h0=>?_⟩
 have hh:=(hr.has_ r hw).2 h0
 rw [has_eq] at hh
 obtain ⟨p,hp1,hp2⟩:=List.any_eq_true.1 hh
 obtain ⟨r',h3,h4,h5⟩:=h2 p hp1
 have e:p.1=za2 r:=WideAt.sameKey_eq hp2
 rw [e] at h5
 rw [zd6 hw h4 h5]
 exact h3
theorem yg9 (rb mb ar n cb m:Nat) (f g:Row→Int) (w:World) (hr:w.heap[rb]? = some (.cells #[.int .i64 ar,.map (some mb)] 129 (0,0))) (hf:zfk w mb n f) (hg:zfk w cb m g) (hnm:n+m≤1000000000)
  (hbf:∀ r,zaw r→-1000000≤f r∧f r≤1000000) (hbg:∀ r,zaw r→-1000000≤g r∧g r≤1000000) :
  Calls Tryz.prog 120 #[.pointer (some ⟨rb,0,none⟩),.map (some cb)] w fun e w'=>yfp e (zti f g)∧Below w.heap.size w w':=by
 have Hf:=zac hf
 obtain ⟨Df,hownf,hrepf⟩:=hf
 obtain ⟨D,hown,hrep⟩:=hg
 have Hr:=zac hr
 have Hrepf:=zac hrepf
 have Hrep:=zac hrep
 have Hbf:=zac hbf
 have Hbg:=zac hbg
 have hrl:rb<w.heap.size:=(Array.getElem?_eq_some_iff.1 hr).1
 have hml:mb<w.heap.size:=hownf.lt
 have d1:w.cell? ⟨rb,1,none⟩=some (.map (some mb)):=zab hr 1
 have HP:=zac (ybs.start (Dg:=D) (g:=g) (hownf.tidy zft) (zmh hownf) hrepf)
 have hsz:=hownf.size_le
 have hszg:=hown.size_le
 clear hr hrep hrepf hbf hbg
 go_enter Tryz.func120,Tryz.ntmps120
 go_wp2_with (first
  | (at_len;refine wpList_len_own _ rfl _ 127 rfl 77 2 Tryz.underlying127 _ mb n Df rfl hownf ?_)
  | (at_range;refine wpList_range_own _ rfl _ 127 rfl 77 2 zft Tryz.underlying127 _ cb m D rfl hown ?_;intro w0 hrg0 hg0 hs0)
  | go_in)
 go_frame
 go_loopw [5] (fun t wr=>∃ left cnt Dk,wr.ranges Tryz.prog 77 (plainElem Tryz.prog 2) cb w.heap.size m D left cnt∧Below w.heap.size w wr∧ybs Dk f g (zjo D left)∧Maps.size Dk+cnt≤n+m∧t=.int .i64 (Maps.size Dk)) (fun _ wr=>wr.rangeLeft cb w.heap.size)
 case atStart=>exact ⟨_,_,Df,hrg0,(Below.refl _ _).grown hg0 (Nat.le_refl _) (fun k e=>by cases e),zaa HP,by omega,rfl⟩
 case round =>
  obtain ⟨left,cnt,Dk,hrg,hB,hP,hcnt,rfl⟩:=hrel
  have HB:=zac hB
  have HPk:=zac hP
  clear hB hP
  obtain ⟨sz,hsk⟩:∃ sz,sz=Maps.size Dk:=⟨_,rfl⟩
  rw [← hsk] at hcnt ⊢
  have Hsk:=zac hsk
  clear hsk
  go_wp2_with (first
   | (at_next;refine wpList_next_ranges _ rfl _ rfl 77 zft (plainElem Tryz.prog 2) (fun x:Row=>.agg #[.int .i64 x.1,.int .i64 x.2.1,.int .i64 x.2.2]) (Value.int .i64) zul zqt cb w.heap.size m D left cnt rfl hrg ?_ ?_)
   | go_in)
  ·intro _ hl0
   have hle:sz≤16↔zti f g:=by
    obtain ⟨k,hk,hkv⟩:=(zaa HPk).end_ (zaa Hrep) hl0
    have hT:=(zaa HPk).tidy
    have hKy:=(zaa HPk).keyish
    rw [zaa Hsk]
    constructor
    ·intro h16
     obtain ⟨G,hG1,hG2⟩:=yel hT hKy hk
     exact ⟨G,by omega,fun r hr h0=>hG2 r hr (by rw [hkv r hr];exact h0)⟩
    ·rintro ⟨G,hG1,hG2⟩
     have h:=size_le hT hKy hk G (fun r hw h0=>hG2 r hw (by rw [← hkv r hw];exact h0))
     omega
   have Hle:=zac hle
   clear hle
   by_cases h16:sz≤16
   ·have hi16:(sz:Int)≤16:=by omega
    have H16:=zac h16
    clear h16
    go_wp2
    go_ret
    exact ⟨⟨true,by simp [hi16],⟨fun _=>(zaa Hle).1 (zaa H16),fun _=>rfl⟩⟩,zaa HB⟩
   ·have hi16:¬ (sz:Int)≤16:=by omega
    have H16:=zac h16
    clear h16
    go_wp2
    go_ret
    exact ⟨⟨false,by simp [hi16],⟨fun h=>(by cases h),fun h=>absurd ((zaa Hle).2 h) (zaa H16)⟩⟩,zaa HB⟩
  ·intro x1 x2 x3 c kl y1 y2 w1 cnt1 hkey hlk hv hat hrg1 hlt hg1 hs1 hen
   obtain ⟨hwx,hkl,hc⟩:=ykc (zaa Hrep) (x:=(x1,x2,x3)) (y:=(y1,y2)) hkey hv hat
   have hhas:Maps.has D (za2 (x1,x2,x3))=true:=by rw [← hkl];exact has_true_of_atKey hat
   have hnz:g (x1,x2,x3)≠0:=((zaa Hrep).has_ _ hwx).1 hhas
   have hnd:¬ zjo D left (x1,x2,x3):=fun h=>by have h2:=h.2;rw [hkl] at hlk;rw [hlk] at h2;cases h2
   obtain ⟨D',hP',s1,s2,s3⟩:=(zaa HPk).step hwx hnd
   have hP'':=hP'.congr (zoi hwx hhas)
   rw [← hkl] at hP''
   rw [← zaa Hsk] at s1 s2 s3
   have hbf:=(zaa Hbf) _ hwx
   have hbg:=(zaa Hbg) _ hwx
   have hB1:Below w.heap.size w w1:=(zaa HB).grown hg1 (zaa HB).size (fun k e=>by cases e;exact Nat.le_refl _)
   have hBW:Below w.heap.size w (w1.alloc (.cells #[.int .i64 x1,.int .i64 x2,.int .i64 x3] 77)):=hB1.alloc hB1.size _
   have hfW:zfk (w1.alloc (.cells #[.int .i64 x1,.int .i64 x2,.int .i64 x3] 77)) mb n f:=(zaa Hf).kept (hBW.block _ hml)
   have hrun:∀ q,(Instr.lookup 127 (.map (some mb)) (.agg #[.int .i64 x1,.int .i64 x2,.int .i64 x3]) false).run Tryz.prog ((w1.alloc (.cells #[.int .i64 x1,.int .i64 x2,.int .i64 x3] 77)).drewN q)=.ok (.int .i64 (f (x1,x2,x3))) ((w1.alloc (.cells #[.int .i64 x1,.int .i64 x2,.int .i64 x3] 77)).drewN q):=
    fun q=>zfk.look (x:=(x1,x2,x3)) (hfW.drewN q) hwx
   have c1:w1.cell? ⟨rb,1,none⟩=some (.map (some mb)):=by rw [hB1.cell (p:=⟨rb,1,none⟩) hrl];exact zab (zaa Hr) 1
   have hne:¬ rb=w1.heap.size:=by have:=hB1.size;omega
   have hne2:rb<w1.heap.size:=by have:=hB1.size;omega
   have hq':∀ nq,((w1.alloc (.cells #[.int .i64 x1,.int .i64 x2,.int .i64 x3] 77)).drewN nq).ranges Tryz.prog 77 (plainElem Tryz.prog 2) cb w.heap.size m D (fun z=>left z && !z.sameKey kl) cnt1:=fun _=>hrg1.alloc _
   have Hq:=zac hq'
   have Hrg:=zac hrg
   have HBW:=zac hBW
   have HP'':=zac hP''
   generalize hfx:f (x1,x2,x3)=fx at *
   generalize hgx:g (x1,x2,x3)=gx at *
   subst hc
   clear hkey hlk hv hat hrg1 hrg hg1 hs1 hB1 hBW hfW hfx hgx hkl hP' hP'' hq' hnd
   obtain ⟨sz',hS'⟩:∃ sz',sz'=Maps.size D':=⟨_,rfl⟩
   rw [← hS'] at s1 s2 s3
   have HS':=zac hS'
   clear hS'
   have Hlt:=zac hlt
   by_cases h0:fx=0
   ·have b1:(fx == 0)=true:=by simp [h0]
    have b2:(c != 0)=true:=by simpa using hnz
    have hsz':Hid (sz'=sz+1):=s1 (by omega) h0
    clear s1 s2 s3 h0 hnz
    go_wp2
    go_quiet (fail)
    go_wp2
    refine ⟨⟨_,cnt1,D',(zaa Hq) _,(zaa HBW).trans ((zbd.ofN _ _).below _),zaa HP'',by rw [← zaa HS'];have:=zaa hsz';omega,?_⟩,?_⟩
    ·rw [← zaa HS'];exact congrArg (Value.int .i64) (by have:=zaa hsz';omega)
    ·rw [((zaa Hq) _).left_eq,(zaa Hrg).left_eq]
     exact zaa Hlt
   ·by_cases h1:fx+c=0
    ·have b1:(fx == 0)=false:=by simp [h0]
     have b2:(fx != 0)=true:=by simp [h0]
     have b3:(fx+c == 0)=true:=by simp [h1]
     have hsz':Hid (sz'+1=sz):=s3 h1 h0
     clear s1 s2 s3 h0 h1 hnz
     go_wp2
     go_quiet (fail)
     go_wp2
     refine ⟨⟨_,cnt1,D',(zaa Hq) _,(zaa HBW).trans ((zbd.ofN _ _).below _),zaa HP'',by rw [← zaa HS'];have:=zaa hsz';omega,?_⟩,?_⟩
     ·rw [← zaa HS'];exact congrArg (Value.int .i64) (by have:=zaa hsz';omega)
     ·rw [((zaa Hq) _).left_eq,(zaa Hrg).left_eq]
      exact zaa Hlt
    ·have b1:(fx == 0)=false:=by simp [h0]
     have b2:(fx != 0)=true:=by simp [h0]
     have b3:(fx+c == 0)=false:=by simp [h1]
     have hsz':Hid (sz'=sz):=s2 h1 h0
     clear s1 s2 s3 h0 h1 hnz
     go_wp2
     go_quiet (fail)
     go_wp2
     refine ⟨⟨_,cnt1,D',(zaa Hq) _,(zaa HBW).trans ((zbd.ofN _ _).below _),zaa HP'',by rw [← zaa HS'];have:=zaa hsz';omega,?_⟩,?_⟩
     ·rw [← zaa HS'];exact congrArg (Value.int .i64) (by have:=zaa hsz';omega)
     ·rw [((zaa Hq) _).left_eq,(zaa Hrg).left_eq]
      exact zaa Hlt
end Go.Proofs.YtoifcnidhfnapaaGreatDoor
