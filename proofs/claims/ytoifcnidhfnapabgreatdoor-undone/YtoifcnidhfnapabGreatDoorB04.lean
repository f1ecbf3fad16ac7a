import Derived.Test.YtoifcnidhfnapabGreatDoorB03
set_option linter.unusedVariables false
set_option linter.unusedSimpArgs false
set_option maxRecDepth 100000
set_option maxHeartbeats 16000000
namespace Go.Proofs.YtoifcnidhfnapabGreatDoor
open Go.RowKit Go.Maps
attribute [local go_sem ↓] Go.wp_at_zero Go.wp_at_succ
theorem Rep.congr {D:DataW Unit} {f g:Row→Int} (h:Rep D f) (he:∀ r,zaw r→f r=g r):Rep D g:=
 ⟨fun r hr=>by rw [← he r hr];exact h.at_ r hr,fun r hr=>by rw [← he r hr];exact h.has_ r hr,h.keys⟩
theorem ze9.congr {w:World} {b n:Nat} {f g:Row→Int} (h:ze9 w b n f) (he:∀ r,zaw r→f r=g r):ze9 w b n g:=by
 obtain ⟨D,h1,h2⟩:=h
 exact ⟨D,h1,h2.congr he⟩
structure yiy (h f g:Row→Int) (done:Row→Prop):Prop where
 yes:∀ r,zaw r→done r→h r=f r+g r
 no:∀ r,zaw r→¬ done r→h r=f r
theorem yiy.step {h f g:Row→Int} {done:Row→Prop} (hh:yiy h f g done) {x:Row} (hx:zaw x) (hnd:¬ done x):yiy (upd h x (h x+g x)) f g (fun r=>done r∨r=x):=by
 refine ⟨fun r hw hd=>?_,fun r hw hd=>?_⟩
 ·unfold upd
  by_cases e:r=x
  ·subst e;rw [if_pos rfl,hh.no r hx hnd]
  ·rw [if_neg e];exact hh.yes r hw (hd.resolve_right e)
 ·unfold upd
  have e:¬ r=x:=fun e=>hd (Or.inr e)
  rw [if_neg e];exact hh.no r hw (fun h=>hd (Or.inl h))
theorem yiy.congr {h f g:Row→Int} {d d':Row→Prop} (hh:yiy h f g d) (he:∀ r,zaw r→(d r↔d' r)):yiy h f g d':=
 ⟨fun r hw hd=>hh.yes r hw ((he r hw).2 hd),fun r hw hd=>hh.no r hw (fun x=>hd ((he r hw).1 x))⟩
theorem za5 {w w':World} (h:Below w.heap.size w w') (row:Option Nat):w.grownBy w' row:=⟨h.os,h.tape,h.output,h.size,fun k hk _=>h.block k hk⟩
theorem yi5 (b n:Nat) (f:Row→Int) (x1 x2 x3:Int) (x:Int) (w:World) (h:ze9 w b n f) (hn:n<2000000000) (hr:zaw (x1,x2,x3)) (h1:-1000000≤f (x1,x2,x3)) (h2:f (x1,x2,x3)≤1000000) (h3:-1000000≤x) (h4:x≤1000000) :
  Calls Tryz.prog 67 #[.map (some b),.agg #[.int .i64 x1,.int .i64 x2,.int .i64 x3],.int .i64 x] w fun e w'=>e=.returned (.tuple #[])∧ze9 w' b (n+1) (upd f (x1,x2,x3) (f (x1,x2,x3)+x))∧w.grownBy w' (some b):=
 zwk b n f (x1,x2,x3) x w h hn hr h1 h2 h3 h4
theorem ybb (rb mb ar n cb m:Nat) (f g:Row→Int) (w:World) (hr:w.heap[rb]? = some (.cells #[.int .i64 ar,.map (some mb)] 104 (0,0))) (hf:ze9 w mb n f) (hg:ze9 w cb m g) (hnm:n+m≤1000000000) (hcm:cb≠mb)
  (hbf:∀ r,zaw r→-100000≤f r∧f r≤100000) (hbg:∀ r,zaw r→-100000≤g r∧g r≤100000) :
  Calls Tryz.prog 74 #[.pointer (some ⟨rb,0,none⟩),.map (some cb)] w fun e w'=>e=.returned (.tuple #[])∧ze9 w' mb (n+m) (fun r=>f r+g r)∧w.grownBy w' (some mb):=by
 have Hf:=zac hf
 obtain ⟨D,hown,hrep⟩:=hg
 have Hr:=zac hr
 have Hrep:=zac hrep
 have Hbf:=zac hbf
 have Hbg:=zac hbg
 have hrl:rb<w.heap.size:=(Array.getElem?_eq_some_iff.1 hr).1
 have hml:mb<w.heap.size:=hf.lt
 have hcl:cb<w.heap.size:=hown.lt
 have hszg:=hown.size_le
 have hrm:rb≠mb:=fun e=>by
  obtain ⟨_,⟨_,_,h1,_⟩,_⟩:=hf
  rw [e,h1] at hr
  cases hr
 clear hr hrep hbf hbg hf
 go_enter Tryz.func74,Tryz.ntmps74
 go_wp2_with (first
  | (at_range;refine wpList_range_own _ rfl _ 102 rfl 150 2 zf8 Tryz.underlying102 _ cb m D rfl hown ?_;intro w0 hrg0 hg0 hs0)
  | go_in)
 go_frame
 go_loopw [8] (fun _ wr=>∃ left cnt N h,wr.ranges Tryz.prog 150 (plainElem Tryz.prog 2) cb w.heap.size m D left cnt∧w.grownBy wr (some mb)∧ze9 wr mb N h∧yiy h f g (zjo D left)∧N+cnt≤n+m) (fun _ wr=>wr.rangeLeft cb w.heap.size)
 case atStart =>
  refine ⟨_,_,n,f,hrg0,hg0.but _,(zaa Hf).kept (hg0.block _ hml (by simp)),⟨fun r _ h=>(by have h1:=h.1;rw [h.2] at h1;cases h1),fun _ _ _=>rfl⟩,by omega⟩
 case round =>
  obtain ⟨left,cnt,N,h,hrg,hB,hW,hH,hcnt⟩:=hrel
  have HB:=zac hB
  have HW:=zac hW
  have HH:=zac hH
  clear hB hW hH
  go_wp2_with (first
   | (at_next;refine wpList_next_ranges _ rfl _ rfl 150 zf8 (plainElem Tryz.prog 2) (fun x:Row=>.agg #[.int .i64 x.1,.int .i64 x.2.1,.int .i64 x.2.2]) (Value.int .i64) zuv zo4 cb w.heap.size m D left cnt rfl hrg ?_ ?_)
   | go_in)
  ·intro _ hl0
   go_wp2
   go_end0
   refine ⟨rfl,((zaa HW).mono (by omega)).congr (fun r hw=>?_),zaa HB⟩
   by_cases hh:Maps.has D (za2 r)=true
   ·exact (zaa HH).yes r hw ⟨hh,hl0 _⟩
   ·have h0:g r=0:=by
     by_cases e:g r=0
     ·exact e
     ·exact absurd (((zaa Hrep).has_ r hw).2 e) hh
    rw [(zaa HH).no r hw (fun d=>hh d.1),h0];omega
  ·intro x1 x2 x3 c kl y1 y2 w1 cnt1 hkey hlk hv hat hrg1 hlt hg1 hs1 hen
   obtain ⟨hwx,hkl,hc⟩:=yk9 (zaa Hrep) (x:=(x1,x2,x3)) (y:=(y1,y2)) hkey hv hat
   have hhas:Maps.has D (za2 (x1,x2,x3))=true:=by rw [← hkl];exact has_true_of_atKey hat
   have hnd:¬ zjo D left (x1,x2,x3):=fun h=>by have h2:=h.2;rw [hkl] at hlk;rw [hlk] at h2;cases h2
   have hH':=((zaa HH).step hwx hnd).congr (zow hwx hhas)
   rw [← hkl] at hH'
   have hbf:=(zaa Hbf) _ hwx
   have hbg:=(zaa Hbg) _ hwx
   have hhx:=(zaa HH).no _ hwx hnd
   have hx1:-1000000≤h (x1,x2,x3):=by omega
   have hx2:h (x1,x2,x3)≤1000000:=by omega
   have hx3:-1000000≤c:=by omega
   have hx4:c≤1000000:=by omega
   have Hc:=zac hc
   clear hc hhx hbf hbg
   have hsz1:w.heap.size≤w1.heap.size:=Nat.le_trans (zaa HB).size hg1.size
   have hB1:w.grownBy w1 (some mb):=(zaa HB).andThen hg1 (fun j e=>by cases e;exact Or.inl (Nat.le_refl _))
   have hBW:w.grownBy (w1.alloc (.cells #[.int .i64 x1,.int .i64 x2,.int .i64 x3] 150)) (some mb):=hB1.andThen (World.grownBy_alloc _ _ none) (fun j e=>by cases e)
   have hWW:ze9 (w1.alloc (.cells #[.int .i64 x1,.int .i64 x2,.int .i64 x3] 150)) mb N h:=((zaa HW).kept (hg1.block _ (zaa HW).lt (by simp;omega))).kept (Below.heap_alloc _ _ _ (by omega))
   have c1:w1.cell? ⟨rb,1,none⟩=some (.map (some mb)):=by rw [World.cell?_of_block (a:=⟨rb,1,none⟩) (hB1.block rb hrl (by simpa using hrm))];exact zab (zaa Hr) 1
   have hne:¬ rb=w1.heap.size:=by omega
   have hne2:rb<w1.heap.size:=by omega
   have hq':(w1.alloc (.cells #[.int .i64 x1,.int .i64 x2,.int .i64 x3] 150)).ranges Tryz.prog 150 (plainElem Tryz.prog 2) cb w.heap.size m D (fun z=>left z && !z.sameKey kl) cnt1:=hrg1.alloc _
   have Hq:=zac hq'
   have Hrg:=zac hrg
   have HBW:=zac hBW
   have HH':=zac hH'
   have HWW:=zac hWW
   have Hlt:=zac hlt
   clear hkey hlk hv hat hrg1 hrg hg1 hs1 hBW hkl hH' hq' hnd hWW hB1 hlt
   go_wp2
   have kE:(w1.alloc (.cells #[.int .i64 x1,.int .i64 x2,.int .i64 x3] 150)).heap[w1.heap.size]? = some (.cells #[.int .i64 x1,.int .i64 x2,.int .i64 x3] 150 (0,0)):=zae w1 _ _ rfl
   have c1':(w1.alloc (.cells #[.int .i64 x1,.int .i64 x2,.int .i64 x3] 150)).cell? ⟨rb,1,none⟩=some (.map (some mb)):=by rw [World.cell?_of_block (a:=⟨rb,1,none⟩) (Below.heap_alloc _ _ _ (by omega))];exact c1
   have hsW:w1.heap.size<(w1.alloc (.cells #[.int .i64 x1,.int .i64 x2,.int .i64 x3] 150)).heap.size:=by simp
   clear hen c1
   generalize w1.alloc (.cells #[.int .i64 x1,.int .i64 x2,.int .i64 x3] 150)=W at *
   have e0:W.cell? ⟨w1.heap.size,0,none⟩=some (.int .i64 x1):=zab kE 0
   have e1:W.cell? ⟨w1.heap.size,1,none⟩=some (.int .i64 x2):=zab kE 1
   have e2:W.cell? ⟨w1.heap.size,2,none⟩=some (.int .i64 x3):=zab kE 2
   clear kE
   go_region_held3 (fun W'=>W'.cell? ⟨rb,1,none⟩=some (.map (some mb))∧W'.cell? ⟨w1.heap.size,0,none⟩=some (.int .i64 x1)∧W'.cell? ⟨w1.heap.size,1,none⟩=some (.int .i64 x2)∧W'.cell? ⟨w1.heap.size,2,none⟩=some (.int .i64 x3))
    (first
     | go_keep
     | (go_split_ands;refine ⟨?_,?_,?_,?_⟩ <;> (rw [World.cell?_of_block (hg2.block _ (by simp;omega) (by simp;omega))];assumption)))
    (first
     | (go_at_call 67;refine (yi5 mb N h x1 x2 x3 c _ ?_ (by omega) hwx hx1 hx2 hx3 hx4).mono ?_;exact (zaa HWW);rintro e w2 ⟨rfl,hm2,hg2⟩))
   have hg2':W.grownBy w2 (some mb):=⟨hg2.os,hg2.tape,hg2.output,hg2.size,hg2.block⟩
   have hR:=(zaa Hq).kept hg2' (by simpa using hcm) (by simp;omega)
   have HR:=zac hR
   have Hg2:=zac hg2'
   have Hm2:=zac hm2
   clear hR hg2 hg2' hm2 e0 e1 e2 c1'
   go_wp2
   refine ⟨⟨_,cnt1,N+1,_,zaa HR,(zaa HBW).andThen (zaa Hg2) (fun j e=>Or.inr e),zaa Hm2,?_,by have:=zaa Hlt;omega⟩,?_⟩
   ·rw [zaa Hc];exact zaa HH'
   ·rw [(zaa HR).left_eq,(zaa Hrg).left_eq];exact zaa Hlt
attribute [local go_sem ↓] Go.wp_at_zero Go.wp_at_succ
def zjx (f g:Row→Int):Prop:=∀ r,zaw r→g r≠0→-1000≤f r+g r∧f r+g r≤1000
def ztv (f g:Row→Int):Prop:=∃ G:List Row,G.length≤16∧∀ r,zaw r→f r+g r≠0→r∈G
theorem yjm (rb mb ar n cb m:Nat) (f g:Row→Int) (w:World) (hr:w.heap[rb]? = some (.cells #[.int .i64 ar,.map (some mb)] 104 (0,0))) (hf:ze9 w mb n f) (hg:ze9 w cb m g)
  (hbf:∀ r,zaw r→-1000000≤f r∧f r≤1000000) (hbg:∀ r,zaw r→-1000000≤g r∧g r≤1000000) :
  Calls Tryz.prog 69 #[.pointer (some ⟨rb,0,none⟩),.map (some cb)] w fun e w'=>∃ b:Bool,e=.returned (.bool b)∧(b=true↔zjx f g)∧Below w.heap.size w w':=by
 obtain ⟨D,hown,hrep⟩:=hg
 have Hr:=zac hr
 have Hf:=zac hf
 have Hrep:=zac hrep
 have Hbf:=zac hbf
 have Hbg:=zac hbg
 have hrl:rb<w.heap.size:=(Array.getElem?_eq_some_iff.1 hr).1
 have hml:mb<w.heap.size:=hf.lt
 clear hr hf hrep hbf hbg
 go_enter Tryz.func69,Tryz.ntmps69
 go_wp2_with (first
  | (at_range;refine wpList_range_own _ rfl _ 102 rfl 150 2 zf8 Tryz.underlying102 _ cb m D rfl hown ?_;intro w0 hrg0 hg0 hs0)
  | go_in)
 go_frame
 go_loopw [10] (fun _ wr=>∃ left cnt,wr.ranges Tryz.prog 150 (plainElem Tryz.prog 2) cb w.heap.size m D left cnt∧Below w.heap.size w wr∧∀ r,zaw r→Maps.has D (za2 r)=true→left (za2 r)=false→-1000≤f r+g r∧f r+g r≤1000) (fun _ wr=>wr.rangeLeft cb w.heap.size)
 case atStart=>exact ⟨_,_,hrg0,(Below.refl _ _).grown hg0 (Nat.le_refl _) (fun k e=>by cases e),fun r _ h1 h2=>by rw [h1] at h2;cases h2⟩
 case round =>
  obtain ⟨left,cnt,hrg,hB,hD⟩:=hrel
  have HB:=zac hB
  have HD:=zac hD
  clear hB hD
  go_wp2_with (first
   | (at_next;refine wpList_next_ranges _ rfl _ rfl 150 zf8 (plainElem Tryz.prog 2) (fun x:Row=>.agg #[.int .i64 x.1,.int .i64 x.2.1,.int .i64 x.2.2]) (Value.int .i64) zuv zo4 cb w.heap.size m D left cnt rfl hrg ?_ ?_)
   | go_in)
  ·intro _ hl0
   go_wp2
   go_ret
   exact ⟨true,rfl,⟨fun _ r hr h0=>(zaa HD) r hr (((zaa Hrep).has_ r hr).2 h0) (hl0 _),fun _=>rfl⟩,zaa HB⟩
  ·intro x1 x2 x3 c kl y1 y2 w1 cnt1 hkey hlk hv hat hrg1 hlt hg1 hs1 hen
   obtain ⟨hwx,hkl,hc⟩:=yk9 (zaa Hrep) (x:=(x1,x2,x3)) (y:=(y1,y2)) hkey hv hat
   have hhas:Maps.has D (za2 (x1,x2,x3))=true:=by rw [← hkl];exact has_true_of_atKey hat
   have hnz:g (x1,x2,x3)≠0:=((zaa Hrep).has_ _ hwx).1 hhas
   have hD1:(-1000≤f (x1,x2,x3)+g (x1,x2,x3)∧f (x1,x2,x3)+g (x1,x2,x3)≤1000)→∀ r,zaw r→Maps.has D (za2 r)=true→(left (za2 r) && !(za2 r).sameKey kl)=false→-1000≤f r+g r∧f r+g r≤1000:=by
    intro hx r hr h1 h2
    by_cases e:r=(x1,x2,x3)
    ·subst e;exact hx
    ·have hs:(za2 r).sameKey kl=false:=by rw [hkl];exact sameKey_ne (fun e'=>e (zd6 hr hwx e'))
     rw [hs] at h2
     exact (zaa HD) r hr h1 (by simpa using h2)
   have hno:¬ (-1000≤f (x1,x2,x3)+g (x1,x2,x3)∧f (x1,x2,x3)+g (x1,x2,x3)≤1000)→¬ zjx f g:=fun h k=>h (k _ hwx hnz)
   have HD1:=zac hD1
   have Hno:=zac hno
   have hbf:=(zaa Hbf) _ hwx
   have hbg:=(zaa Hbg) _ hwx
   have hB1:Below w.heap.size w w1:=(zaa HB).grown hg1 (zaa HB).size (fun k e=>by cases e;exact Nat.le_refl _)
   have hBW:Below w.heap.size w (w1.alloc (.cells #[.int .i64 x1,.int .i64 x2,.int .i64 x3] 150)):=hB1.alloc hB1.size _
   have hfW:ze9 (w1.alloc (.cells #[.int .i64 x1,.int .i64 x2,.int .i64 x3] 150)) mb n f:=(zaa Hf).kept (hBW.block _ hml)
   have hrun:∀ q,(Instr.lookup 102 (.map (some mb)) (.agg #[.int .i64 x1,.int .i64 x2,.int .i64 x3]) false).run Tryz.prog ((w1.alloc (.cells #[.int .i64 x1,.int .i64 x2,.int .i64 x3] 150)).drewN q)=.ok (.int .i64 (f (x1,x2,x3))) ((w1.alloc (.cells #[.int .i64 x1,.int .i64 x2,.int .i64 x3] 150)).drewN q):=
    fun q=>ze9.look (x:=(x1,x2,x3)) (hfW.drewN q) hwx
   have c1:w1.cell? ⟨rb,1,none⟩=some (.map (some mb)):=by rw [hB1.cell (p:=⟨rb,1,none⟩) hrl];exact zab (zaa Hr) 1
   have hne:¬ rb=w1.heap.size:=by have:=hB1.size;omega
   have hne2:rb<w1.heap.size:=by have:=hB1.size;omega
   have Hrg1:=zac hrg1
   have Hrg:=zac hrg
   have Hg1:=zac hg1
   have HBW:=zac hBW
   generalize hfx:f (x1,x2,x3)=fx at *
   generalize hgx:g (x1,x2,x3)=gx at *
   subst hc
   have Hlt:=zac hlt
   clear hkey hlk hv hat hrg1 hrg hg1 hs1 hB1 hBW hfW hfx hgx hkl hhas hnz hD1 hno hlt
   by_cases t1:fx+c < -1000
   ·go_wp2
    go_quiet (fail)
    go_wp2
    go_ret
    exact ⟨false,rfl,⟨fun h=>(by cases h),fun h=>absurd h ((zaa Hno) (by omega))⟩,(zaa HBW).trans ((za9.ofN _ _).below _)⟩
   ·by_cases t2:1000<fx+c
    ·go_wp2
     go_quiet (fail)
     go_wp2
     go_ret
     exact ⟨false,rfl,⟨fun h=>(by cases h),fun h=>absurd h ((zaa Hno) (by omega))⟩,(zaa HBW).trans ((za9.ofN _ _).below _)⟩
    ·go_wp2
     go_quiet (fail)
     go_wp2
     have hq:=((zaa Hrg1).alloc (.cells #[.int .i64 x1,.int .i64 x2,.int .i64 x3] 150))
     have hq':((w1.alloc (.cells #[.int .i64 x1,.int .i64 x2,.int .i64 x3] 150)).drewN nq).ranges Tryz.prog 150 (plainElem Tryz.prog 2) cb w.heap.size m D (fun z=>left z && !z.sameKey kl) cnt1:=hq
     refine ⟨⟨_,_,hq',(zaa HBW).trans ((za9.ofN _ _).below _),(zaa HD1) (by omega)⟩,?_⟩
     rw [hq'.left_eq,(zaa Hrg).left_eq]
     exact zaa Hlt
attribute [local go_sem ↓] Go.wp_at_zero Go.wp_at_succ
def yf2 (e:Ending) (P:Prop):Prop:=∃ b:Bool,e=.returned (.bool b)∧(b=true↔P)
theorem ye4 {D:DataW Unit} {h:Row→Int} (hT:Tidy D) (hK:zh5 D) (hr:Rep D h):∃ G:List Row,G.length=Maps.size D∧∀ r,zaw r→h r≠0→r∈G:=by
 obtain ⟨es,rfl,hp⟩:=hT
 have hk:=hK es rfl
 have hx:∀ p∈es,∃ r,zaw r∧p.1=za2 r:=fun p hpm=>hr.keys _ (zq9 hpm (hk p hpm))
 have hG:∀ es':List (Lit×DataW Unit),(∀ p∈es',∃ r,zaw r∧p.1=za2 r)→∃ G:List Row,G.length=es'.length∧∀ p∈es',∃ r∈G,zaw r∧p.1=za2 r:=by
  intro es'
  induction es' with
  | nil=>intro _;exact ⟨[],rfl,fun p hp=>by simp at hp⟩
  | cons q qs ih =>
   intro h
   obtain ⟨G,h1,h2⟩:=ih (fun p hp=>h p (List.mem_cons_of_mem _ hp))
   obtain ⟨r,h3,h4⟩:=h q List.mem_cons_self
   refine ⟨r :: G,by simp [h1],fun p hp=>?_⟩
   rcases List.mem_cons.1 hp with rfl|hp
   ·exact ⟨r,by simp,h3,h4⟩
   ·obtain ⟨r',h5,h6⟩:=h2 p hp
    exact ⟨r',by simp [h5],h6⟩
 obtain ⟨G,h1,h2⟩:=hG es hx
 refine ⟨G,by rw [h1];simp [size_eq],fun r hw h0=>?_⟩
 have hh:=(hr.has_ r hw).2 h0
 rw [has_eq] at hh
 obtain ⟨p,hp1,hp2⟩:=List.any_eq_true.1 hh
 obtain ⟨r',h3,h4,h5⟩:=h2 p hp1
 have e:p.1=za2 r:=WideAt.sameKey_eq hp2
 rw [e] at h5
 rw [zd6 hw h4 h5]
 exact h3
theorem yhv (rb mb ar n cb m:Nat) (f g:Row→Int) (w:World) (hr:w.heap[rb]? = some (.cells #[.int .i64 ar,.map (some mb)] 104 (0,0))) (hf:ze9 w mb n f) (hg:ze9 w cb m g) (hnm:n+m≤1000000000)
  (hbf:∀ r,zaw r→-1000000≤f r∧f r≤1000000) (hbg:∀ r,zaw r→-1000000≤g r∧g r≤1000000) :
  Calls Tryz.prog 70 #[.pointer (some ⟨rb,0,none⟩),.map (some cb)] w fun e w'=>yf2 e (ztv f g)∧Below w.heap.size w w':=by
 have Hf:=zac hf
 obtain ⟨Df,hownf,hrepf⟩:=hf
 obtain ⟨D,hown,hrep⟩:=hg
 have Hr:=zac hr
 have Hrepf:=zac hrepf
 have Hrep:=zac hrep
 have Hbf:=zac hbf
 have Hbg:=zac hbg
 have hrl:rb<w.heap.size:=(Array.getElem?_eq_some_iff.1 hr).1
 have hml:mb<w.heap.size:=hownf.lt
 have d1:w.cell? ⟨rb,1,none⟩=some (.map (some mb)):=zab hr 1
 have HP:=zac (yb2.start (Dg:=D) (g:=g) (hownf.tidy zf8) (zmn hownf) hrepf)
 have hsz:=hownf.size_le
 have hszg:=hown.size_le
 clear hr hrep hrepf hbf hbg
 go_enter Tryz.func70,Tryz.ntmps70
 go_wp2_with (first
  | (at_len;refine wpList_len_own _ rfl _ 102 rfl 150 2 Tryz.underlying102 _ mb n Df rfl hownf ?_)
  | (at_range;refine wpList_range_own _ rfl _ 102 rfl 150 2 zf8 Tryz.underlying102 _ cb m D rfl hown ?_;intro w0 hrg0 hg0 hs0)
  | go_in)
 go_frame
 go_loopw [5] (fun t wr=>∃ left cnt Dk,wr.ranges Tryz.prog 150 (plainElem Tryz.prog 2) cb w.heap.size m D left cnt∧Below w.heap.size w wr∧yb2 Dk f g (zjo D left)∧Maps.size Dk+cnt≤n+m∧t=.int .i64 (Maps.size Dk)) (fun _ wr=>wr.rangeLeft cb w.heap.size)
 case atStart=>exact ⟨_,_,Df,hrg0,(Below.refl _ _).grown hg0 (Nat.le_refl _) (fun k e=>by cases e),zaa HP,by omega,rfl⟩
 case round =>
  obtain ⟨left,cnt,Dk,hrg,hB,hP,hcnt,rfl⟩:=hrel
  have HB:=zac hB
  have HPk:=zac hP
  clear hB hP
  obtain ⟨sz,hsk⟩:∃ sz,sz=Maps.size Dk:=⟨_,rfl⟩
  rw [← hsk] at hcnt ⊢
  have Hsk:=zac hsk
  clear hsk
  go_wp2_with (first
   | (at_next;refine wpList_next_ranges _ rfl _ rfl 150 zf8 (plainElem Tryz.prog 2) (fun x:Row=>.agg #[.int .i64 x.1,.int .i64 x.2.1,.int .i64 x.2.2]) (Value.int .i64) zuv zo4 cb w.heap.size m D left cnt rfl hrg ?_ ?_)
   | go_in)
  ·intro _ hl0
   have hle:sz≤16↔ztv f g:=by
    obtain ⟨k,hk,hkv⟩:=(zaa HPk).end_ (zaa Hrep) hl0
    have hT:=(zaa HPk).tidy
    have hKy:=(zaa HPk).keyish
    rw [zaa Hsk]
    constructor
    ·intro h16
     obtain ⟨G,hG1,hG2⟩:=ye4 hT hKy hk
     exact ⟨G,by omega,fun r hr h0=>hG2 r hr (by rw [hkv r hr];exact h0)⟩
    ·rintro ⟨G,hG1,hG2⟩
     have h:=size_le hT hKy hk G (fun r hw h0=>hG2 r hw (by rw [← hkv r hw];exact h0))
     omega
   have Hle:=zac hle
   clear hle
   by_cases h16:sz≤16
   ·have hi16:(sz:Int)≤16:=by omega
    have H16:=zac h16
    clear h16
    go_wp2
    go_ret
    exact ⟨⟨true,by simp [hi16],⟨fun _=>(zaa Hle).1 (zaa H16),fun _=>rfl⟩⟩,zaa HB⟩
   ·have hi16:¬ (sz:Int)≤16:=by omega
    have H16:=zac h16
    clear h16
    go_wp2
    go_ret
    exact ⟨⟨false,by simp [hi16],⟨fun h=>(by cases h),fun h=>absurd ((zaa Hle).2 h) (zaa H16)⟩⟩,zaa HB⟩
  ·intro x1 x2 x3 c kl y1 y2 w1 cnt1 hkey hlk hv hat hrg1 hlt hg1 hs1 hen
   obtain ⟨hwx,hkl,hc⟩:=yk9 (zaa Hrep) (x:=(x1,x2,x3)) (y:=(y1,y2)) hkey hv hat
   have hhas:Maps.has D (za2 (x1,x2,x3))=true:=by rw [← hkl];exact has_true_of_atKey hat
   have hnz:g (x1,x2,x3)≠0:=((zaa Hrep).has_ _ hwx).1 hhas
   have hnd:¬ zjo D left (x1,x2,x3):=fun h=>by have h2:=h.2;rw [hkl] at hlk;rw [hlk] at h2;cases h2
   obtain ⟨D',hP',s1,s2,s3⟩:=(zaa HPk).step hwx hnd
   have hP'':=hP'.congr (zow hwx hhas)
   rw [← hkl] at hP''
   rw [← zaa Hsk] at s1 s2 s3
   have hbf:=(zaa Hbf) _ hwx
   have hbg:=(zaa Hbg) _ hwx
   have hB1:Below w.heap.size w w1:=(zaa HB).grown hg1 (zaa HB).size (fun k e=>by cases e;exact Nat.le_refl _)
   have hBW:Below w.heap.size w (w1.alloc (.cells #[.int .i64 x1,.int .i64 x2,.int .i64 x3] 150)):=hB1.alloc hB1.size _
   have hfW:ze9 (w1.alloc (.cells #[.int .i64 x1,.int .i64 x2,.int .i64 x3] 150)) mb n f:=(zaa Hf).kept (hBW.block _ hml)
   have hrun:∀ q,(Instr.lookup 102 (.map (some mb)) (.agg #[.int .i64 x1,.int .i64 x2,.int .i64 x3]) false).run Tryz.prog ((w1.alloc (.cells #[.int .i64 x1,.int .i64 x2,.int .i64 x3] 150)).drewN q)=.ok (.int .i64 (f (x1,x2,x3))) ((w1.alloc (.cells #[.int .i64 x1,.int .i64 x2,.int .i64 x3] 150)).drewN q):=
    fun q=>ze9.look (x:=(x1,x2,x3)) (hfW.drewN q) hwx
   have c1:w1.cell? ⟨rb,1,none⟩=some (.map (some mb)):=by rw [hB1.cell (p:=⟨rb,1,none⟩) hrl];exact zab (zaa Hr) 1
   have hne:¬ rb=w1.heap.size:=by have:=hB1.size;omega
   have hne2:rb<w1.heap.size:=by have:=hB1.size;omega
   have hq':∀ nq,((w1.alloc (.cells #[.int .i64 x1,.int .i64 x2,.int .i64 x3] 150)).drewN nq).ranges Tryz.prog 150 (plainElem Tryz.prog 2) cb w.heap.size m D (fun z=>left z && !z.sameKey kl) cnt1:=fun _=>hrg1.alloc _
   have Hq:=zac hq'
   have Hrg:=zac hrg
   have HBW:=zac hBW
   have HP'':=zac hP''
   generalize hfx:f (x1,x2,x3)=fx at *
   generalize hgx:g (x1,x2,x3)=gx at *
   subst hc
   clear hkey hlk hv hat hrg1 hrg hg1 hs1 hB1 hBW hfW hfx hgx hkl hP' hP'' hq' hnd
   obtain ⟨sz',hS'⟩:∃ sz',sz'=Maps.size D':=⟨_,rfl⟩
   rw [← hS'] at s1 s2 s3
   have HS':=zac hS'
   clear hS'
   have Hlt:=zac hlt
   by_cases h0:fx=0
   ·have b1:(fx == 0)=true:=by simp [h0]
    have b2:(c != 0)=true:=by simpa using hnz
    have hsz':Hid (sz'=sz+1):=s1 (by omega) h0
    clear s1 s2 s3 h0 hnz
    go_wp2
    go_quiet (fail)
    go_wp2
    refine ⟨⟨_,cnt1,D',(zaa Hq) _,(zaa HBW).trans ((za9.ofN _ _).below _),zaa HP'',by rw [← zaa HS'];have:=zaa hsz';omega,?_⟩,?_⟩
    ·rw [← zaa HS'];exact congrArg (Value.int .i64) (by have:=zaa hsz';omega)
    ·rw [((zaa Hq) _).left_eq,(zaa Hrg).left_eq]
     exact zaa Hlt
   ·by_cases h1:fx+c=0
    ·have b1:(fx == 0)=false:=by simp [h0]
     have b2:(fx != 0)=true:=by simp [h0]
     have b3:(fx+c == 0)=true:=by simp [h1]
     have hsz':Hid (sz'+1=sz):=s3 h1 h0
     clear s1 s2 s3 h0 h1 hnz
     go_wp2
     go_quiet (fail)
     go_wp2
     refine ⟨⟨_,cnt1,D',(zaa Hq) _,(zaa HBW).trans ((za9.ofN _ _).below _),zaa HP'',by rw [← zaa HS'];have:=zaa hsz';omega,?_⟩,?_⟩
     ·rw [← zaa HS'];exact congrArg (Value.int .i64) (by have:=zaa hsz';omega)
     ·rw [((zaa Hq) _).left_eq,(zaa Hrg).left_eq]
      exact zaa Hlt
    ·have b1:(fx == 0)=false:=by simp [h0]
     have b2:(fx != 0)=true:=by simp [h0]
     have b3:(fx+c == 0)=false:=by simp [h1]
     have hsz':Hid (sz'=sz):=s2 h1 h0
     clear s1 s2 s3 h0 h1 hnz
     go_wp2
     go_quiet (fail)
     go_wp2
     refine ⟨⟨_,cnt1,D',(zaa Hq) _,(zaa HBW).trans ((za9.ofN _ _).below _),zaa HP'',by rw [← zaa HS'];have:=zaa hsz';omega,?_⟩,?_⟩
     ·rw [← zaa HS'];exact congrArg (Value.int .i64) (by have:=zaa hsz';omega)
     ·rw [((zaa Hq) _).left_eq,(zaa Hrg).left_eq]
      exact zaa Hlt
attribute [local go_sem ↓] Go.wp_at_zero Go.wp_at_succ
theorem zhn {v:Value} {l:Lit} (h:keyOf Tryz.prog 9 v=some l):∃ s,v=.string s∧l=zau s∧s.size≤maxLen:=by
 simp only [keyOf,Tryz.underlying9] at h
 cases v <;> simp [mapKey,Tryz.underlying9] at h
 obtain ⟨h1,rfl⟩:=h
 exact ⟨_,rfl,rfl,h1⟩
theorem zyu:∀ key kl,keyOf Tryz.prog 9 key=some kl→∃ s,key=Value.string s:=by
 intro key kl h
 obtain ⟨s,hs,_⟩:=zhn h
 exact ⟨s,hs⟩
theorem ydw:∀ v y,zcy v=some y→∃ o:Option Nat,v=Value.map o:=by
 intro v y h
 unfold zcy at h
 split at h
 ·exact ⟨_,rfl⟩
 ·exact ⟨_,rfl⟩
 ·cases h
def yb9 (st:St) (ch:Ch) (n:Nat):Prop:=∀ nm p,ch nm=some p→nm.size≤maxLen∧∃ R,st nm=some R∧R.n+n≤1000000000 ∧
 (∀ r,zaw r→-1000≤R.f r∧R.f r≤1000)∧(∀ r,zaw r→-100000≤p.2 r∧p.2 r≤100000)
def yko (st:St) (ch:Ch):Prop:=∀ nm p R,ch nm=some p→st nm=some R→zjx R.f p.2
def ymi (st:St) (ch:Ch):Prop:=∀ nm p R,ch nm=some p→st nm=some R→ztv R.f p.2
theorem yc0 {w:World} {D:DataW Unit} {ch:Ch} (hhas:∀ nm,nm.size≤maxLen→Maps.has D (zau nm)=(ch nm).isSome) (hat0:∀ nm p,nm.size≤maxLen→ch nm=some p→∀ zd,D.atKey (zau nm) zd=.lit (.int .i64 p.1))
  {s:ByteArray} {o:Option Nat} {kl:Lit} {y:DataW Unit×List MemPlace} (hkey:keyOf Tryz.prog 9 (.string s)=some kl) (hv:zcy (.map o)=some y) (hat:∀ zd,D.atKey kl zd=y.1) :
  s.size≤maxLen∧kl=zau s∧∃ p,ch s=some p∧o=some p.1:=by
 obtain ⟨s',e,rfl,hs⟩:=zhn hkey
 cases e
 have h1:=hhas s hs
 rw [has_true_of_atKey hat] at h1
 cases hc:ch s with
 | none=>rw [hc] at h1;cases h1
 | some p =>
  have h2:=hat0 s p hs hc .nil
  rw [hat] at h2
  have h3:zcy (.map o)=some (.lit (.int .i64 p.1),y.2):=by rw [hv,← h2]
  have h4:=zka h3
  cases h4
  exact ⟨hs,rfl,p,rfl,rfl⟩
theorem yjd (w:World) {eb db nD S E cb B n:Nat} {st:St} {ch:Ch} (hE:za1 w eb db nD S E st) (hC:zcd w cb B n ch) (hbase:yb9 st ch n) :
  Calls Tryz.prog 44 #[.pointer (some ⟨eb,0,none⟩),.map (some cb)] w fun e w'=>∃ c:Int,e=.returned (.int .i64 c)∧(c=9∧¬ yko st ch∨c=10∧yko st ch∧¬ ymi st ch∨c=0∧yko st ch∧ymi st ch)∧Below w.heap.size w w':=by
 obtain ⟨D,hown,hhas,hat0⟩:=hC.dir
 have HE:=zac hE
 have HC:=zac hC
 have Hbase:=zac hbase
 have Hhas:=zac hhas
 have Hat:=zac hat0
 have c0:w.cell? ⟨eb,0,none⟩=some (.map (some db)):=hE.c0
 have hel:eb<w.heap.size:=by have:=hE.inn;have:=hE.top;omega
 clear hE hC hbase hhas hat0
 go_enter Tryz.func44,Tryz.ntmps44
 go_wp2_with (first
  | (at_range;refine wpList_range_own _ rfl _ 95 rfl 9 102 zqh Tryz.underlying95 _ cb n D rfl hown ?_;intro w0 hrg0 hg0 hs0)
  | go_in)
 go_frame
 go_loopw [11] (fun _ wr=>∃ left cnt,wr.ranges Tryz.prog 9 zcy cb w.heap.size n D left cnt∧Below w.heap.size w wr∧∀ nm p R,ch nm=some p→st nm=some R→left (zau nm)=false→zjx R.f p.2) (fun _ wr=>wr.rangeLeft cb w.heap.size)
 case atStart=>exact ⟨_,_,hrg0,(Below.refl _ _).grown hg0 (Nat.le_refl _) (fun k e=>by cases e),fun nm p R hp hR hl=>by rw [(zaa Hhas) nm ((zaa Hbase) nm p hp).1,hp] at hl;cases hl⟩
 case round =>
  obtain ⟨left,cnt,hrg,hB,hF⟩:=hrel
  have HB:=zac hB
  have HF:=zac hF
  clear hB hF
  go_wp2_with (first
   | (at_next;refine wpList_next_ranges _ rfl _ rfl 9 zqh zcy Value.string Value.map zyu ydw cb w.heap.size n D left cnt rfl hrg ?_ ?_)
   | go_in)
  ·intro _ hl0
   obtain ⟨wo,hwo⟩:∃ wo,wo=wr:=⟨_,rfl⟩
   subst hwo
   have HW:Hid (yko st ch):=fun nm p R hp hR=>(zaa HF) nm p R hp hR (hl0 _)
   have hownB:wo.ownsMap Tryz.prog 9 zcy cb n D:=hrg.owns
   have HhB:=zac hownB.lt
   have hBs:=(zaa HB).size
   have c0r:wo.cell? ⟨eb,0,none⟩=some (.map (some db)):=by rw [(zaa HB).cell (p:=⟨eb,0,none⟩) hel];exact c0
   clear hrg hrg0 hg0 hs0 HF
   go_wp2_with (first
    | (at_range;refine wpList_range_own _ rfl _ 95 rfl 9 102 zqh Tryz.underlying95 _ cb n D rfl hownB ?_;intro w0' hrg0' hg0' hs0')
    | go_in)
   go_frame
   go_loopw [27] (fun _ wq=>∃ left cnt,wq.ranges Tryz.prog 9 zcy cb wo.heap.size n D left cnt∧Below wo.heap.size wo wq∧∀ nm p R,ch nm=some p→st nm=some R→left (zau nm)=false→ztv R.f p.2) (fun _ wq=>wq.rangeLeft cb wo.heap.size)
   case atStart=>exact ⟨_,_,hrg0',(Below.refl _ _).grown hg0' (Nat.le_refl _) (fun k e=>by cases e),fun nm p R hp hR hl=>by rw [(zaa Hhas) nm ((zaa Hbase) nm p hp).1,hp] at hl;cases hl⟩
   case round =>
    obtain ⟨left',cnt',hrg,hB,hF⟩:=hrel
    have HB':=zac hB
    have HF':=zac hF
    clear hB hF
    go_wp2_with (first
     | (at_next;refine wpList_next_ranges _ rfl _ rfl 9 zqh zcy Value.string Value.map zyu ydw cb wo.heap.size n D left' cnt' rfl hrg ?_ ?_)
     | go_in)
    ·intro _ hl1
     go_wp2
     go_ret
     exact ⟨0,rfl,.inr (.inr ⟨rfl,zaa HW,fun nm p R hp hR=>(zaa HF') nm p R hp hR (hl1 _)⟩),(zaa HB).trans ((zaa HB').mono hBs)⟩
    ·intro s o kl y1 y2 w1 cnt1 hkey hlk hv hat hrg1 hlt hg1 hs1 hen
     obtain ⟨hs,hkl,p,hp,ho⟩:=yc0 (w:=w) (zaa Hhas) (zaa Hat) (y:=(y1,y2)) hkey hv hat
     subst ho
     obtain ⟨_,R,hR,hn,hf2,hf3⟩:=(zaa Hbase) s p hp
     have hB1':Below wo.heap.size wo w1:=(zaa HB').grown hg1 (zaa HB').size (fun k e=>by cases e;exact Nat.le_refl _)
     have hB1:Below w.heap.size w w1:=(zaa HB).trans (hB1'.mono hBs)
     have hE1:=(zaa HE).below hB1
     have hrun:=hE1.get hs hR
     have c1:w1.cell? ⟨eb,0,none⟩=some (.map (some db)):=by rw [hB1.cell (p:=⟨eb,0,none⟩) hel];exact c0
     have hnext:ztv R.f p.2→∀ nm q Q,ch nm=some q→st nm=some Q→(left' (zau nm) && !(zau nm).sameKey kl)=false→ztv Q.f q.2:=by
      intro hf nm q Q hq hQ hl
      by_cases e:nm=s
      ·subst e;rw [hp] at hq;rw [hR] at hQ;cases hq;cases hQ;exact hf
      ·rw [hkl,sameKey_ne (fun e'=>e (zc8 e'))] at hl
       exact (zaa HF') nm q Q hq hQ (by simpa using hl)
     have Hnext:=zac hnext
     have Hbad:Hid (¬ ztv R.f p.2→¬ ymi st ch):=fun h k=>h (k s p R hp hR)
     have Hrel:=zac (hE1.rel s R hR)
     have Hp:=zac (((zaa HC).below hB1).each s p hp).1
     have Hrg1:=zac hrg1
     have Hrg:=zac hrg
     have HB1:=zac hB1'
     have Hlt:=zac hlt
     have Hf2:=zac hf2
     have Hf3:=zac hf3
     clear hkey hlk hv hat hrg1 hrg hg1 hs1 hkl hlt hE1 hR hB1 hB1' hf2 hf3 hp hnext
     go_wp2_with fail
     refine (yhv R.rb R.mb R.ar R.n p.1 n R.f p.2 _ (zaa Hrel).1 (zaa Hrel).2 (zaa Hp) hn (fun r hr=>by have:=(zaa Hf2) r hr;omega) (fun r hr=>by have:=(zaa Hf3) r hr;omega)).mono ?_
     rintro e w2 ⟨⟨b,rfl,hbi⟩,hb2⟩
     have Hbi:=zac hbi
     have Hb2:=zac hb2
     clear hbi hb2
     cases b with
     | false =>
      go_wp2
      go_ret
      exact ⟨10,rfl,.inr (.inl ⟨rfl,zaa HW,(zaa Hbad) (fun h=>by have:=(zaa Hbi).2 h;cases this)⟩),(zaa HB).trans (((zaa HB1).trans ((zaa Hb2).mono (zaa HB1).size)).mono hBs)⟩
     | true =>
      go_wp2
      have hR2:=(zaa Hrg1).kept (za5 (zaa Hb2) none) (by simp) (by simp)
      refine ⟨⟨_,cnt1,hR2,(zaa HB1).trans ((zaa Hb2).mono (zaa HB1).size),(zaa Hnext) ((zaa Hbi).1 (by simp))⟩,?_⟩
      rw [hR2.left_eq,(zaa Hrg).left_eq]
      exact zaa Hlt
  ·intro s o kl y1 y2 w1 cnt1 hkey hlk hv hat hrg1 hlt hg1 hs1 hen
   obtain ⟨hs,hkl,p,hp,ho⟩:=yc0 (w:=w) (zaa Hhas) (zaa Hat) (y:=(y1,y2)) hkey hv hat
   subst ho
   obtain ⟨_,R,hR,hn,hf2,hf3⟩:=(zaa Hbase) s p hp
   have hB1:Below w.heap.size w w1:=(zaa HB).grown hg1 (zaa HB).size (fun k e=>by cases e;exact Nat.le_refl _)
   have hE1:=(zaa HE).below hB1
   have hrun:=hE1.get hs hR
   have c1:w1.cell? ⟨eb,0,none⟩=some (.map (some db)):=by rw [hB1.cell (p:=⟨eb,0,none⟩) hel];exact c0
   have hnext:zjx R.f p.2→∀ nm q Q,ch nm=some q→st nm=some Q→(left (zau nm) && !(zau nm).sameKey kl)=false→zjx Q.f q.2:=by
    intro hf nm q Q hq hQ hl
    by_cases e:nm=s
    ·subst e;rw [hp] at hq;rw [hR] at hQ;cases hq;cases hQ;exact hf
    ·rw [hkl,sameKey_ne (fun e'=>e (zc8 e'))] at hl
     exact (zaa HF) nm q Q hq hQ (by simpa using hl)
   have Hnext:=zac hnext
   have Hbad:Hid (¬ zjx R.f p.2→¬ yko st ch):=fun h k=>h (k s p R hp hR)
   have Hrel:=zac (hE1.rel s R hR)
   have Hp:=zac (((zaa HC).below hB1).each s p hp).1
   have Hrg1:=zac hrg1
   have Hrg:=zac hrg
   have HB1:=zac hB1
   have Hlt:=zac hlt
   have Hf2:=zac hf2
   have Hf3:=zac hf3
   clear hkey hlk hv hat hrg1 hrg hg1 hs1 hkl hlt hE1 hR hB1 hf2 hf3 hp hnext
   go_wp2_with fail
   refine (yjm R.rb R.mb R.ar R.n p.1 n R.f p.2 _ (zaa Hrel).1 (zaa Hrel).2 (zaa Hp) (fun r hr=>by have:=(zaa Hf2) r hr;omega) (fun r hr=>by have:=(zaa Hf3) r hr;omega)).mono ?_
   rintro e w2 ⟨b,rfl,hbi,hb2⟩
   have Hbi:=zac hbi
   have Hb2:=zac hb2
   clear hbi hb2
   cases b with
   | false =>
    go_wp2
    go_ret
    exact ⟨9,rfl,.inl ⟨rfl,(zaa Hbad) (fun h=>by have:=(zaa Hbi).2 h;cases this)⟩,(zaa HB1).trans ((zaa Hb2).mono (zaa HB1).size)⟩
   | true =>
    go_wp2
    have hR2:=(zaa Hrg1).kept (za5 (zaa Hb2) none) (by simp) (by simp)
    refine ⟨⟨_,cnt1,hR2,(zaa HB1).trans ((zaa Hb2).mono (zaa HB1).size),(zaa Hnext) ((zaa Hbi).1 (by simp))⟩,?_⟩
    rw [hR2.left_eq,(zaa Hrg).left_eq]
    exact zaa Hlt
end Go.Proofs.YtoifcnidhfnapabGreatDoor
