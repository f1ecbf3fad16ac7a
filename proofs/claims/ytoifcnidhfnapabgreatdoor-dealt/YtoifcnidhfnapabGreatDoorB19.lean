import Derived.Test.YtoifcnidhfnapabGreatDoorB17
import Derived.Test.YtoifcnidhfnapabGreatDoorB18
import Derived.Test.YtoifcnidhfnapabGreatDoorB10
import Derived.Test.YtoifcnidhfnapabGreatDoorB11
set_option linter.unusedVariables false
set_option linter.unusedSimpArgs false
set_option maxRecDepth 100000
set_option maxHeartbeats 16000000
namespace Go.Proofs.YtoifcnidhfnapabGreatDoor
open Go.RowKit Go.Maps Go.Sort Go.Shelf
def zhe (r:List zai):Prop:=r.Pairwise fun a b=>ltR a.1 b.1
theorem ygg (x y:Row):zf7 x y<0↔ltR x y:=by
 rw [← zre]
 simp [ltOf]
theorem yc4 (x y:Row):zf7 x y=if x.1<y.1 then -1 else if y.1<x.1 then 1 else if x.2.1<y.2.1 then -1 else if y.2.1<x.2.1 then 1 else if x.2.2<y.2.2 then -1 else if y.2.2<x.2.2 then 1 else 0:=by
 unfold zf7 zuz
 simp only [ztp,zq2]
 repeat' split
 all_goals first|rfl|omega
theorem zor (x y:Row):zf7 x y=0→x=y:=by
 rw [yc4]
 intro h
 repeat' split at h
 all_goals first|(exfalso;omega)|exact Prod.ext (by omega) (Prod.ext (by omega) (by omega))
theorem ygh (x y:Row):0<zf7 x y→ltR y x:=by
 rw [yc4]
 unfold ltR
 intro h
 repeat' split at h
 all_goals omega
theorem zu0 {x y z:Row} (h:ltR x y) (k:ltR y z):ltR x z:=by
 unfold ltR at *
 omega
theorem zjc:∀ (a b:List zai) (e:zai),e∈zci a b→∃ e',(e'∈a∨e'∈b)∧e'.1=e.1:=by
 intro a b
 refine zjb (M:=fun a b r=>∀ e,e∈r→∃ e',(e'∈a∨e'∈b)∧e'.1=e.1) ?_ ?_ ?_ ?_ ?_ ?_ a b
 ·intro b;intro e he;exact ⟨e,.inr he,rfl⟩
 ·intro x a;intro e he;exact ⟨e,.inl he,rfl⟩
 ·intro x a y b h ih
  intro e he
  rcases List.mem_cons.1 he with rfl|he
  ·exact ⟨e,.inl (List.mem_cons_self ..),rfl⟩
  ·obtain ⟨e',h1,h2⟩:=ih e he
   exact ⟨e',h1.imp (List.mem_cons_of_mem _) id,h2⟩
 ·intro x a y b h1 h2 ih
  intro e he
  rcases List.mem_cons.1 he with rfl|he
  ·exact ⟨e,.inr (List.mem_cons_self ..),rfl⟩
  ·obtain ⟨e',h1,h2⟩:=ih e he
   exact ⟨e',h1.imp id (List.mem_cons_of_mem _),h2⟩
 ·intro x a y b h1 h2 h3 ih
  intro e he
  obtain ⟨e',h1,h2⟩:=ih e he
  exact ⟨e',h1.imp (List.mem_cons_of_mem _) (List.mem_cons_of_mem _),h2⟩
 ·intro x a y b h1 h2 h3 ih
  intro e he
  rcases List.mem_cons.1 he with rfl|he
  ·exact ⟨x,.inl (List.mem_cons_self ..),rfl⟩
  ·obtain ⟨e',h1,h2⟩:=ih e he
   exact ⟨e',h1.imp (List.mem_cons_of_mem _) (List.mem_cons_of_mem _),h2⟩
theorem yar (a b:List zai):(zci a b).length≤a.length+b.length:=by
 refine zjb (M:=fun a b r=>r.length≤a.length+b.length) ?_ ?_ ?_ ?_ ?_ ?_ a b
 ·intro b;simp
 ·intro x a;simp
 ·intro x a y b h ih;simp at ih ⊢;omega
 ·intro x a y b h1 h2 ih;simp at ih ⊢;omega
 ·intro x a y b h1 h2 h3 ih;simp;omega
 ·intro x a y b h1 h2 h3 ih;simp;omega
theorem yfv (x y:zai) (r:Row):wtB (r,wrap64 (x.2+y.2))=wtB x+wtB y:=by
 unfold wtB
 rw [zg6,BitVec.ofInt_add]
theorem yaq (a b:List zai):Eqv (zci a b) (a ++ b):=by
 intro ψ
 refine zjb (M:=fun a b r=>zby r (fun e=>ψ e.1*wtB e)=zby (a ++ b) (fun e=>ψ e.1*wtB e)) ?_ ?_ ?_ ?_ ?_ ?_ a b
 ·intro b;rfl
 ·intro x a;rw [List.append_nil]
 ·intro x a y b h ih
  rw [List.cons_append]
  simp only [zby]
  rw [ih]
 ·intro x a y b h1 h2 ih
  rw [zbg] at ih ⊢
  simp only [zby] at ih ⊢
  rw [ih]
  grind
 ·intro x a y b h1 h2 h3 ih
  rw [zbg] at ih ⊢
  simp only [zby] at ih ⊢
  have hxy:x.1=y.1:=zor _ _ (by omega)
  have hw:=yfv x y x.1
  rw [h3] at hw
  have h0:wtB x+wtB y=0#64:=by rw [← hw];rfl
  rw [ih,← hxy]
  grind
 ·intro x a y b h1 h2 h3 ih
  rw [zbg] at ih ⊢
  simp only [zby] at ih ⊢
  have hxy:x.1=y.1:=zor _ _ (by omega)
  rw [ih,yfv,← hxy]
  grind
theorem zxg (a b:List zai):zhe a→zhe b→zhe (zci a b):=by
 unfold zhe
 refine zjb (M:=fun a b r=>a.Pairwise (fun x y=>ltR x.1 y.1)→b.Pairwise (fun x y=>ltR x.1 y.1)→r.Pairwise (fun x y=>ltR x.1 y.1)) ?_ ?_ ?_ ?_ ?_ ?_ a b
 ·intro b;intro _ h;exact h
 ·intro x a;intro h _;exact h
 ·intro x a y b h ih
  intro ha hb
  have ha1:=List.pairwise_cons.1 ha
  have hb1:=List.pairwise_cons.1 hb
  have hxy:=(ygg _ _).1 h
  refine List.pairwise_cons.2 ⟨fun e he=>?_,ih ha1.2 hb⟩
  obtain ⟨e',h1,h2⟩:=zjc _ _ e he
  rw [← h2]
  rcases h1 with h1|h1
  ·exact ha1.1 e' h1
  ·rcases List.mem_cons.1 h1 with rfl|h1
   ·exact hxy
   ·exact zu0 hxy (hb1.1 e' h1)
 ·intro x a y b h1 h2 ih
  intro ha hb
  have ha1:=List.pairwise_cons.1 ha
  have hb1:=List.pairwise_cons.1 hb
  have hyx:=ygh _ _ h2
  refine List.pairwise_cons.2 ⟨fun e he=>?_,ih ha hb1.2⟩
  obtain ⟨e',h3,h4⟩:=zjc _ _ e he
  rw [← h4]
  rcases h3 with h3|h3
  ·rcases List.mem_cons.1 h3 with rfl|h3
   ·exact hyx
   ·exact zu0 hyx (ha1.1 e' h3)
  ·exact hb1.1 e' h3
 ·intro x a y b h1 h2 h3 ih
  intro ha hb
  exact ih (List.pairwise_cons.1 ha).2 (List.pairwise_cons.1 hb).2
 ·intro x a y b h1 h2 h3 ih
  intro ha hb
  have ha1:=List.pairwise_cons.1 ha
  have hb1:=List.pairwise_cons.1 hb
  have hxy:x.1=y.1:=zor _ _ (by omega)
  refine List.pairwise_cons.2 ⟨fun e he=>?_,ih ha1.2 hb1.2⟩
  obtain ⟨e',h3,h4⟩:=zjc _ _ e he
  rw [← h4]
  show ltR x.1 e'.1
  rcases h3 with h3|h3
  ·exact ha1.1 e' h3
  ·rw [hxy];exact hb1.1 e' h3
theorem zhe.lex {r:List zai} (h:zhe r):yk0 3 0 r:=by
 have s0:zbk 0 r:=h.imp fun {a b} hab=>by
  show a.1.1≤b.1.1
  unfold ltR at hab
  omega
 refine ⟨s0,fun z0=>?_⟩
 have e0:zxx 0 z0 r=r.filter fun e=>decide (zal e.1 0=z0):=ye3 s0 z0
 rw [e0]
 have p1:(r.filter fun e=>decide (zal e.1 0=z0)).Pairwise fun a b=>ltR a.1 b.1∧a.1.1=b.1.1:=by
  have hm:∀ e∈r.filter (fun e=>decide (zal e.1 0=z0)),e.1.1=z0:=fun e he=>by simpa [zal] using (List.mem_filter.1 he).2
  refine List.Pairwise.imp_of_mem (fun {a b} ha hb hab=>⟨hab,(hm a ha).trans (hm b hb).symm⟩) (List.Pairwise.sublist List.filter_sublist h)
 have s1:zbk 1 (r.filter fun e=>decide (zal e.1 0=z0)):=p1.imp fun {a b} hab=>by
  show a.1.2.1≤b.1.2.1
  have:=hab.1
  have:=hab.2
  unfold ltR at *
  omega
 refine ⟨s1,fun z1=>?_⟩
 rw [show zxx (0+1) z1 _=_ from ye3 s1 z1]
 have p2:((r.filter fun e=>decide (zal e.1 0=z0)).filter fun e=>decide (zal e.1 1=z1)).Pairwise fun a b=>(ltR a.1 b.1∧a.1.1=b.1.1)∧a.1.2.1=b.1.2.1:=by
  have hm:∀ e∈(r.filter fun e=>decide (zal e.1 0=z0)).filter (fun e=>decide (zal e.1 1=z1)),e.1.2.1=z1:=fun e he=>by simpa [zal] using (List.mem_filter.1 he).2
  refine List.Pairwise.imp_of_mem (fun {a b} ha hb hab=>⟨hab,(hm a ha).trans (hm b hb).symm⟩) (List.Pairwise.sublist List.filter_sublist p1)
 refine ⟨p2.imp fun {a b} hab=>?_,fun _=>trivial⟩
 show a.1.2.2≤b.1.2.2
 have:=hab.1.1
 have:=hab.1.2
 have:=hab.2
 unfold ltR at *
 omega
theorem yd9 (a b:List zai) (ha:∀ e∈a,zaw e.1) (hb:∀ e∈b,zaw e.1):∀ e∈zci a b,zaw e.1:=by
 intro e he
 obtain ⟨e',h1,h2⟩:=zjc a b e he
 rw [← h2]
 exact h1.elim (ha e') (hb e')
def zeg (rs:List (List zai)):List (List zai):=rs.filter fun r=>!r.isEmpty
theorem zz9 (rs:List (List zai)) (k:Nat) (hk:k<rs.length):zeg (rs.take (k+1))=if rs[k]?.getD []=[] then zeg (rs.take k) else zeg (rs.take k) ++ [rs[k]?.getD []]:=by
  unfold zeg
  rw [List.take_add_one,List.filter_append]
  simp only [hk,List.getElem?_eq_getElem,Option.toList_some,Option.getD_some]
  by_cases h:rs[k]=[]
  · rw [if_pos h,h];simp
  · rw [if_neg h];simp [h]
theorem ygx {rs:List (List zai)} (h:∀ r∈rs,r≠[]):zeg rs=rs:=by
  unfold zeg
  rw [List.filter_eq_self]
  intro r hr
  have:=h r hr
  simp [this]
theorem zrn (rs:List (List zai)) (sv:Value) (W:World) (h:zay W sv rs) (hn:∀ r∈rs,r.length≤1000000000000) (hl:rs.length≤100000000) :
    Calls Tryz.prog 92 #[sv] W fun e w'=>∃ sv' vals,e=.returned (.agg #[sv',.int .i64 0])∧w'.ownsRow (W.heap.size+2) 197 1 sv' vals.length vals∧zdz W vals (zeg rs)∧Below W.heap.size W w'∧W.heap.size+2≤w'.heap.size:=by
  obtain ⟨a,cap,rfl,hx⟩:=h
  obtain ⟨W3,hW3⟩:∃ W3,W3=(W.alloc (.cells #[.slice none 0 0,.int .i64 0] 124)).alloc (.cells #[.slice none 0 0,.int .i64 0] 124):=⟨_,rfl⟩
  have hb3:Below W.heap.size W W3:=by rw [hW3];exact ((Below.refl _ _).alloc (Nat.le_refl _) _).alloc (by simp) _
  have hsz:W3.heap.size=W.heap.size+2:=by rw [hW3];simp
  have hB1:W3.heap[W.heap.size]? = some (.cells #[.slice none 0 0,.int .i64 0] 124 (0,0)):=by
    rw [hW3]
    exact (Below.heap_alloc _ _ _ (by simp)).trans (zae _ _ _ rfl)
  have hB2:W3.heap[W.heap.size+1]? = some (.cells #[.slice none 0 0,.int .i64 0] 124 (0,0)):=by
    rw [hW3]
    exact zae _ _ _ (by simp)
  have Hb3:=zac hb3
  have Hsz:=zac hsz
  have HB1:=zac hB1
  have HB2:=zac hB2
  have Hn:=zac hn
  have Hx:=zac hx
  clear hb3 hsz hB1 hB2 hn hx
  go_enter Tryz.func92,Tryz.ntmps92
  go_wp2
  rw [← hW3]
  clear hW3
  try go_wp2
  go_loopw [8] (fun i wr=>∃ (k:Nat) (svk:Value) (vals:List Value),k≤rs.length∧i=.int .i64 k∧wr.heap[W.heap.size+1]? = some (.cells #[svk,.int .i64 0] 124 (0,0))∧wr.ownsRow (W.heap.size+2) 197 1 svk vals.length vals∧vals.length≤k ∧
      zdz W vals (zeg (rs.take k))∧W3.heap.size≤wr.heap.size∧(∀ q,q<W3.heap.size→q≠W.heap.size+1→wr.heap[q]? = W3.heap[q]?)∧(wr.os=W3.os∧wr.tape=W3.tape∧wr.output=W3.output)) (fun i _=>rs.length - (intOf i).toNat)
  case atStart=>exact ⟨0,.slice none 0 0,[],Nat.zero_le _,rfl,zaa HB2,World.ownsRow_nil _ _ _ _,Nat.le_refl _,⟨rfl,fun i hi=>by simp [zeg] at hi⟩,Nat.le_refl _,fun _ _ _=>rfl,rfl,rfl,rfl⟩
  case round =>
    obtain ⟨k,svk,vals,hk,rfl,hR,hO,hvl,hV,hS,hF,hT⟩:=hrel
    by_cases hlt:k<rs.length
    · have hkx:(k:Int)<(rs.length:Int):=by omega
      obtain ⟨g,q,b,o,cp,rfl,d0,hr⟩:=(zaa Hx) k hlt
      have hmem:rs[k]?.getD []∈rs:=by simp [hlt]
      have hle:=(zaa Hn) _ hmem
      have hsucc:=zz9 rs k hlt
      have hgl:=World.block_lt_of_cell? W _ d0
      have hold:∀ q,q<W.heap.size→wr.heap[q]? = W.heap[q]?:=fun q hq=>(hF q (by rw [zaa Hsz];omega) (by omega)).trans ((zaa Hb3).block q hq)
      have d0':wr.cell? ⟨g,q+k,none⟩=_:=(World.cell?_of_block (w:=W) (a:=⟨g,q+k,none⟩) (hold g hgl)).trans d0
      obtain ⟨r,hre⟩:∃ r,r=rs[k]?.getD []:=⟨_,rfl⟩
      rw [← hre] at hr hle hsucc d0'
      have hwl:W.heap.size+2≤wr.heap.size:=by have:=zaa Hsz;omega
      have Hr:=zac hr
      have Hsucc:=zac hsucc
      have HR:=zac hR
      have HO:=zac hO
      have HV:=zac hV
      have HF:=zac hF
      have HT:=zac hT
      clear hsucc hR hO hV hF hT hold hr hre hmem d0
      go_wp2_with (first
        | (go_at_call 129;refine (zs4 (W.heap.size+1) svk vals 0 b o r.length cp (W.heap.size+2) wr (zaa HR) (zaa HO) (by omega) (by omega) hle).mono ?_;rintro e w6 ⟨rfl,sv6,hR6,hO6,hs6,hk6,hos6⟩
           have hrel:∃ (k2:Nat) (svk:Value) (vals2:List Value),k2≤rs.length∧(k:Int)+1=(k2:Int)∧w6.heap[W.heap.size+1]? = some (.cells #[svk,.int .i64 0] 124 (0,0))∧w6.ownsRow (W.heap.size+2) 197 1 svk vals2.length vals2∧vals2.length≤k2 ∧
              zdz W vals2 (zeg (rs.take k2))∧W3.heap.size≤w6.heap.size∧(∀ q,q<W3.heap.size→q≠W.heap.size+1→w6.heap[q]? = W3.heap[q]?)∧(w6.os=W3.os∧w6.tape=W3.tape∧w6.output=W3.output):=by
            refine ⟨k+1,sv6,_,by omega,by simp,hR6,hO6,?_,?_,by omega,fun q hq hne=>?_,?_⟩
            · unfold zt2
              split
              · omega
              · simp;omega
            · rw [zaa Hsucc]
              exact (zaa HV).add (zaa Hr)
            · refine (hk6 q (by omega) hne (fun e=>?_)).trans ((zaa HF) q hq hne)
              have:=zho (zaa HO) e
              have:=zaa Hsz
              omega
            · exact ⟨hos6.1.trans (zaa HT).1,hos6.2.1.trans (zaa HT).2.1,hos6.2.2.trans (zaa HT).2.2⟩
           have Hrel:=zac hrel
           clear hrel hR6 hO6 hs6 hk6 hos6))
      obtain ⟨k2,sv2,vals2,y1,y2,y3⟩:=zaa Hrel
      refine ⟨⟨k2,sv2,vals2,y1,by rw [y2],y3⟩,by simp [intOf];omega⟩
    · have hke:k=rs.length:=by omega
      subst hke
      rw [List.take_length] at hV
      obtain ⟨a2,cap2,rfl⟩:=zek hO
      have hB1r:wr.heap[W.heap.size]? = some (.cells #[.slice none 0 0,.int .i64 0] 124 (0,0)):=(hF _ (by rw [zaa Hsz];omega) (by omega)).trans (zaa HB1)
      have e0:wr.cell? ⟨W.heap.size+1,0,none⟩=some (.slice a2 vals.length cap2):=zab hR 0
      have e1:wr.cell? ⟨W.heap.size+1,1,none⟩=some (.int .i64 0):=zab hR 1
      have g0:wr.cell? ⟨W.heap.size,0,none⟩=some (.slice none 0 0):=zab hB1r 0
      have g1:wr.cell? ⟨W.heap.size,1,none⟩=some (.int .i64 0):=zab hB1r 1
      have f0:wr.frozen? ⟨W.heap.size,0,none⟩=false:=zad hB1r 0
      have f1:wr.frozen? ⟨W.heap.size,1,none⟩=false:=zad hB1r 1
      have hbw:Below W.heap.size W wr:=⟨hT.1.trans (zaa Hb3).os,hT.2.1.trans (zaa Hb3).tape,hT.2.2.trans (zaa Hb3).output,Nat.le_trans (zaa Hb3).size hS,fun q hq=>(hF q (by rw [zaa Hsz];omega) (by omega)).trans ((zaa Hb3).block q hq)⟩
      have hO2:=zs0 hO hB1r
      have HO:=zac hO
      have HV:=zac hV
      have Hbw:=zac hbw
      have HS9:=zac hS
      have HO2:=zac hO2
      clear hO hV hF hT hbw hR hB1r hO2
      go_wp2
      have hga:=za6 wr ⟨W.heap.size,0,none⟩ (.slice a2 vals.length cap2)
      have hgb:=za6 (wr.setCell ⟨W.heap.size,0,none⟩ (.slice a2 vals.length cap2)) ⟨W.heap.size,1,none⟩ (.int .i64 0)
      have hgs:=hga.trans hgb
      have hb9:=(zaa Hbw).grown hgs (zaa Hbw).size (fun k e=>by cases e;simp)
      refine bodyPost_ret (v:=.agg #[.slice a2 vals.length cap2,.int .i64 0]) (by simp [results,Tryz.results92,go_sem,g0,g1,f0,f1]) rfl ⟨.slice a2 vals.length cap2,vals,by simp,(zaa HO).kept hgs (.inr (zaa HO2)),zaa HV,hb9,by simp [World.setCell];have:=zaa HS9;have:=zaa Hsz;omega⟩
theorem ybf (rs:List (List zai)) (sv:Value) (W:World) (h:zay W sv rs) (hn:∀ r∈rs,r.length≤1000000000000) (hl:rs.length≤100000000) :
    Calls Tryz.prog 92 #[sv] W fun e w'=>∃ sv',e=.returned (.agg #[sv',.int .i64 0])∧zay w' sv' (zeg rs)∧Below W.heap.size W w'∧∀ g,sv'.ownBlock=some g→W.heap.size<g:=by
  refine (zrn rs sv W h hn hl).mono ?_
  rintro e w' ⟨sv',vals,rfl,ho,hv,hb,_⟩
  exact ⟨sv',rfl,zlh ho hv hb,hb,fun g hg=>by have:=zho ho hg;omega⟩
theorem zay.aside2 {w w':World} {B:Nat} {v:Value} {rs:List (List zai)} {cs:Array Value} {t:TypeId} (h:zay w v rs) (hB:w.heap[B]? = some (.cells cs t (0,0))) (hcs:∀ o i j,cs[o]? = some (.int .i64 i)→cs[o+1]? = some (.int .i64 j)→False)
    (hf:∀ r∈rs,r≠[]) (ho:rs≠[]→v.ownBlock≠some B) (hk:∀ q,q≠B→w'.heap[q]? = w.heap[q]?):zay w' v rs:=by
  obtain ⟨a,cap,rfl,hx⟩:=h
  refine ⟨a,cap,rfl,fun i hi=>?_⟩
  obtain ⟨g,q,b,o,cp,rfl,d0,hr⟩:=hx i hi
  have hne:rs≠[]:=by rintro rfl;simp at hi
  have hg:g≠B:=fun e=>ho hne (by rw [e];rfl)
  have hmem:rs[i]?.getD []∈rs:=by simp [hi]
  have hb:b≠B:=by
    rintro rfl
    obtain ⟨a',cap',e,_,hx⟩:=hr
    injection e with e1 e2 e3
    subst e1
    obtain ⟨b',o',e4,h0,h1,_,_⟩:=hx 0 (List.length_pos_iff.2 (hf _ hmem))
    injection e4 with e4
    injection e4 with e5 e6
    subst e5 e6
    rw [zab hB] at h0 h1
    simp only [Nat.zero_mul,Nat.add_zero] at h0 h1
    exact hcs _ _ _ h0 h1
  exact ⟨g,q,b,o,cp,rfl,(World.cell?_of_block (w:=w) (a:=⟨g,q+i,none⟩) (hk g hg)).trans d0,hr.back ((hk b hb).symm)⟩
theorem ya3 (v:Value) (c:Int) (hv:∀ i,v≠.int .i64 i):∀ (o:Nat) (i j:Int),(#[v,.int .i64 c]:Array Value)[o]? = some (.int .i64 i)→(#[v,.int .i64 c]:Array Value)[o+1]? = some (.int .i64 j)→False:=by
  intro o i j h0 h1
  match o,h0,h1 with
  | 0,h0,_=>exact hv i (Option.some.inj h0)
  | o+1,_,h1=>simp at h1
theorem zdz.down {W W1:World} {vals:List Value} {rs:List (List zai)} (h:zdz W1 vals rs) (hb:Below W.heap.size W W1) (hs:W1.heap.size=W.heap.size+1) {cs:Array Value} {t:TypeId} (hB:W1.heap[W.heap.size]? = some (.cells cs t (0,0))) (ht:t≠259) (hf:∀ r∈rs,r≠[]):zdz W vals rs:=by
  obtain ⟨h1,h2⟩:=h
  refine ⟨h1,fun i hi=>?_⟩
  obtain ⟨b,o,cp,x0,x1,x2⟩:=h2 i hi
  have hne:rs[i]?.getD []≠[]:=hf _ (by simp [hi])
  obtain ⟨a',cap',e,_,hx'⟩:=id x2
  obtain ⟨b',o',e',_,_,_,_,cs',x4⟩:=hx' 0 (List.length_pos_iff.2 hne)
  injection e with e1 e2 e3
  have e4:=e1.trans e'
  injection e4 with e4
  injection e4 with e5 e6
  subst e5 e6
  have hbn:b≠W.heap.size:=fun e=>by
    rw [e,hB] at x4
    injection x4 with x4
    injection x4 with _ x5
    exact ht x5
  have hbl:b<W.heap.size:=by omega
  exact ⟨b,o,cp,hbl,x1,x2.back (hb.block b hbl)⟩
theorem zxq (XB:Nat) (x0 x1 x2 rv bv:Value) (rs:List (List zai)) (W:World) (hX:W.heap[XB]? = some (.cells #[x0,x1,x2,rv,bv] 199 (0,0))) (h:zay W rv rs) (hf:∀ r∈rs,r≠[]) (hn:∀ r∈rs,r.length≤1000000000000) (hl:rs.length≤100000000) :
    Calls Tryz.prog 60 #[.pointer (some ⟨XB,0,none⟩)] W fun e w'=>∃ sv' vals,e=.returned (.agg #[sv',.int .i64 0])∧w'.ownsRow (W.heap.size+3) 197 1 sv' vals.length vals∧zdz W vals rs∧Below W.heap.size W w'∧W.heap.size+3≤w'.heap.size:=by
  obtain ⟨W1,hW1⟩:∃ W1,W1=W.alloc (.cells #[.slice none 0 0,.int .i64 0] 124):=⟨_,rfl⟩
  have hb1:Below W.heap.size W W1:=by rw [hW1];exact (Below.refl _ _).alloc (Nat.le_refl _) _
  have hsz:W1.heap.size=W.heap.size+1:=by rw [hW1];simp
  have hB:W1.heap[W.heap.size]? = some (.cells #[.slice none 0 0,.int .i64 0] 124 (0,0)):=by rw [hW1];exact zae _ _ _ rfl
  obtain ⟨ra,rcap,rfl,_⟩:=id h
  have hXl:XB<W.heap.size:=(Array.getElem?_eq_some_iff.1 hX).1
  have cW:W.cell? ⟨XB,3,none⟩=some (.slice ra rs.length rcap):=zab hX 3
  have c1:W1.cell? ⟨XB,3,none⟩=some (.slice ra rs.length rcap):=zab ((hb1.block XB hXl).trans hX) 3
  have Hb1:=zac hb1
  have Hsz:=zac hsz
  have HB:=zac hB
  have Hr1:=zac (h.below hb1)
  have Hf:=zac hf
  have Hn:=zac hn
  clear hb1 hsz hB h hf hn hX
  go_enter Tryz.func60,Tryz.ntmps60
  go_wp2_with (first
    | (go_at_call 92
       rw [← hW1]
       refine (zrn rs (.slice ra rs.length rcap) W1 (zaa Hr1) (zaa Hn) hl).mono ?_
       rintro e w2 ⟨sv2,vals,rfl,ho2,hv2,hb2,hs2⟩
       rw [ygx (zaa Hf)] at hv2
       have hB2:=(hb2.block W.heap.size (by rw [zaa Hsz];omega)).trans (zaa HB)
       have g0:w2.cell? ⟨W.heap.size,0,none⟩=some (.slice none 0 0):=zab hB2 0
       have g1:w2.cell? ⟨W.heap.size,1,none⟩=some (.int .i64 0):=zab hB2 1
       have f0:w2.frozen? ⟨W.heap.size,0,none⟩=false:=zad hB2 0
       have f1:w2.frozen? ⟨W.heap.size,1,none⟩=false:=zad hB2 1
       have hO2:=zs0 ho2 hB2
       obtain ⟨a2,cap2,rfl⟩:=zek ho2
       have Ho2:=zac ho2
       have HO2:=zac hO2
       have Hs2:=zac hs2
       have Hv2:=zac (hv2.down (zaa Hb1) (zaa Hsz) (zaa HB) (by decide) (zaa Hf))
       have Hb2:=zac ((zaa Hb1).trans (hb2.mono (zaa Hb1).size))
       have HB2:=zac hB2
       clear ho2 hO2 hv2 hb2 hB2 hs2))
  have hga:=za6 w2 ⟨W.heap.size,0,none⟩ (.slice a2 vals.length cap2)
  have hgb:=za6 (w2.setCell ⟨W.heap.size,0,none⟩ (.slice a2 vals.length cap2)) ⟨W.heap.size,1,none⟩ (.int .i64 0)
  have hgs:=hga.trans hgb
  refine bodyPost_ret (v:=.agg #[.slice a2 vals.length cap2,.int .i64 0]) (by simp [results,Tryz.results60,go_sem,g0,g1,f0,f1]) rfl ⟨.slice a2 vals.length cap2,vals,by simp,?_,zaa Hv2,?_,by simp [World.setCell];have:=zaa Hs2;have:=zaa Hsz;omega⟩
  · have:=(zaa Ho2).kept hgs (.inr (zaa HO2))
    rw [zaa Hsz] at this
    exact this
  · exact ((zaa Hb2).trans ⟨rfl,rfl,rfl,by simp [World.setCell],fun k hk=>(Below.heap_setCell _ _ _ k (by dsimp only;omega)).trans (Below.heap_setCell _ _ _ k (by dsimp only;omega))⟩)
theorem yjz (XB:Nat) (x0 x1 x2 rv bv:Value) (rs:List (List zai)) (W:World) (hX:W.heap[XB]? = some (.cells #[x0,x1,x2,rv,bv] 199 (0,0))) (h:zay W rv rs) (hf:∀ r∈rs,r≠[]) (hn:∀ r∈rs,r.length≤1000000000000) (hl:rs.length≤100000000) :
    Calls Tryz.prog 60 #[.pointer (some ⟨XB,0,none⟩)] W fun e w'=>∃ sv',e=.returned (.agg #[sv',.int .i64 0])∧zay w' sv' rs∧Below W.heap.size W w'∧∀ g,sv'.ownBlock=some g→W.heap.size<g:=by
  refine (zxq XB x0 x1 x2 rv bv rs W hX h hf hn hl).mono ?_
  rintro e w' ⟨sv',vals,rfl,ho,hv,hb,_⟩
  exact ⟨sv',rfl,zlh ho hv hb,hb,fun g hg=>by have:=zho ho hg;omega⟩
theorem ycp (XB:Nat) (x0 x1 x2 rv:Value) (b o cp:Nat) (es:List zai) (W:World) (hX:W.heap[XB]? = some (.cells #[x0,x1,x2,rv,.slice (some ⟨b,o,none⟩) es.length cp] 199 (0,0))) (h:zb1 W (.slice (some ⟨b,o,none⟩) es.length cp) es) (hn:es.length≤1000000000000) :
    Calls Tryz.prog 143 #[.pointer (some ⟨XB,0,none⟩)] W fun e w'=>∃ sv',e=.returned (.agg #[sv',.int .i64 0])∧zay w' sv' (zeg [es])∧Below W.heap.size W w'∧∀ g,sv'.ownBlock=some g→W.heap.size<g:=by
  obtain ⟨W1,hW1⟩:∃ W1,W1=(W.alloc (.cells #[.slice none 0 0,.int .i64 0] 124)).alloc (.cells #[.slice (some ⟨b,o,none⟩) es.length cp] 197):=⟨_,rfl⟩
  have hb1:Below W.heap.size W W1:=by rw [hW1];exact ((Below.refl _ _).alloc (Nat.le_refl _) _).alloc (by simp) _
  have hsz:W1.heap.size=W.heap.size+2:=by rw [hW1];simp
  have hB:W1.heap[W.heap.size]? = some (.cells #[.slice none 0 0,.int .i64 0] 124 (0,0)):=by rw [hW1];exact (Below.heap_alloc _ _ _ (by simp)).trans (zae _ _ _ rfl)
  have hB9:W1.heap[W.heap.size+1]? = some (.cells #[.slice (some ⟨b,o,none⟩) es.length cp] 197 (0,0)):=by rw [hW1];exact zae _ _ _ (by simp)
  have hXl:XB<W.heap.size:=(Array.getElem?_eq_some_iff.1 hX).1
  have cW:W.cell? ⟨XB,4,none⟩=some (.slice (some ⟨b,o,none⟩) es.length cp):=zab hX 4
  have hr1:zay W1 (.slice (some ⟨W.heap.size+1,0,none⟩) 1 1) [es]:=by
    refine ⟨some ⟨W.heap.size+1,0,none⟩,1,rfl,fun i hi=>?_⟩
    have:i=0:=by simp at hi;omega
    subst this
    exact ⟨W.heap.size+1,0,b,o,cp,rfl,zab hB9 0,h.below hb1⟩
  have hf:∀ r∈zeg [es],r≠[]:=by
    intro r hr e
    unfold zeg at hr
    rw [List.mem_filter] at hr
    rw [e] at hr
    simp at hr
  have Hb1:=zac hb1
  have Hsz:=zac hsz
  have HB:=zac hB
  have Hr1:=zac hr1
  have Hf:=zac hf
  clear hb1 hsz hB h hX hB9 hr1 hf
  go_enter Tryz.func143,Tryz.ntmps143
  go_wp2_with (first
    | (go_at_call 92
       rw [← hW1]
       refine (ybf [es] (.slice (some ⟨W.heap.size+1,0,none⟩) 1 1) W1 (zaa Hr1) (fun r hr=>by simp at hr;rw [hr];exact hn) (by simp)).mono ?_
       rintro e w2 ⟨sv2,rfl,hr2,hb2,hown⟩
       have hB2:=(hb2.block W.heap.size (by rw [zaa Hsz];omega)).trans (zaa HB)
       have g0:w2.cell? ⟨W.heap.size,0,none⟩=some (.slice none 0 0):=zab hB2 0
       have g1:w2.cell? ⟨W.heap.size,1,none⟩=some (.int .i64 0):=zab hB2 1
       have f0:w2.frozen? ⟨W.heap.size,0,none⟩=false:=zad hB2 0
       have f1:w2.frozen? ⟨W.heap.size,1,none⟩=false:=zad hB2 1
       have hr3:=hr2
       obtain ⟨a2,cap2,rfl,_⟩:=hr2
       have Hr3:=zac hr3
       have Hown:=zac hown
       have Hb2:=zac ((zaa Hb1).trans (hb2.mono (zaa Hb1).size))
       have HB2:=zac hB2
       clear hr3 hown hb2 hB2))
  refine bodyPost_ret (v:=.agg #[.slice a2 (zeg [es]).length cap2,.int .i64 0]) (by simp [results,Tryz.results143,go_sem,g0,g1,f0,f1]) rfl ⟨.slice a2 (zeg [es]).length cap2,by simp,?_,?_,fun g hg=>?_⟩
  · refine (zaa Hr3).aside2 (zaa HB2) (ya3 _ _ (fun i e=>by cases e)) (zaa Hf) (fun _ e=>?_) (fun q hq=>?_)
    · have:=(zaa Hown) _ e
      rw [zaa Hsz] at this
      omega
    · iterate 2 refine (Below.heap_setCell _ _ _ q (fun e=>hq e)).trans ?_
      rfl
  · exact ((zaa Hb2).trans ⟨rfl,rfl,rfl,by simp [World.setCell],fun k hk=>(Below.heap_setCell _ _ _ k (by dsimp only;omega)).trans (Below.heap_setCell _ _ _ k (by dsimp only;omega))⟩)
  · have:=(zaa Hown) g hg
    rw [zaa Hsz] at this
    omega
theorem zy6 (B:Nat) (sv:Value) (c:Int) (W:World) (hB:W.heap[B]? = some (.cells #[sv,.int .i64 c] 124 (0,0))) :
    Calls Tryz.prog 129 #[.pointer (some ⟨B,0,none⟩),.slice none 0 0] W fun e w'=>e=.returned (.tuple #[])∧w'=W:=by
  have c0:W.cell? ⟨B,0,none⟩=some sv:=zab hB 0
  clear hB
  go_enter Tryz.func129,Tryz.ntmps129
  go_wp2
  go_end0
  exact ⟨rfl,rfl⟩
def zcl (w:World) (v:Value) (es:List zai):Prop:=(v=.slice none 0 0∧es=[])∨∃ b o cp,v=.slice (some ⟨b,o,none⟩) es.length cp∧zb1 w v es
theorem zcl.below {w w':World} {v:Value} {es:List zai} (h:zcl w v es) (hb:Below w.heap.size w w'):zcl w' v es:=by
 rcases h with h|⟨b,o,cp,h1,h2⟩
 ·exact .inl h
 ·exact .inr ⟨b,o,cp,h1,h2.below hb⟩
def zh0 (rs:List (List zai)) (es:List zai):List (List zai):=if es=[] then rs else rs ++ [es]
theorem yg8 (XB:Nat) (x0 x1 x2 rv bv:Value) (rs:List (List zai)) (es:List zai) (W:World) (hX:W.heap[XB]? = some (.cells #[x0,x1,x2,rv,bv] 199 (0,0))) (h:zay W rv rs) (hbt:zcl W bv es) (hf:∀ r∈rs,r≠[]) (hn:∀ r∈rs,r.length≤1000000000000) (hl:rs.length≤100000000) (hne:es.length≤1000000000000) :
  Calls Tryz.prog 142 #[.pointer (some ⟨XB,0,none⟩)] W fun e w'=>∃ sv',e=.returned (.agg #[sv',.int .i64 0])∧zay w' sv' (zh0 rs es)∧Below W.heap.size W w'∧∀ g,sv'.ownBlock=some g→W.heap.size<g:=by
 obtain ⟨W1,hW1⟩:∃ W1,W1=W.alloc (.cells #[.slice none 0 0,.int .i64 0] 124):=⟨_,rfl⟩
 have hb1:Below W.heap.size W W1:=by rw [hW1];exact (Below.refl _ _).alloc (Nat.le_refl _) _
 have hsz:W1.heap.size=W.heap.size+1:=by rw [hW1];simp
 have hB:W1.heap[W.heap.size]? = some (.cells #[.slice none 0 0,.int .i64 0] 124 (0,0)):=by rw [hW1];exact zae _ _ _ rfl
 have hXl:XB<W.heap.size:=(Array.getElem?_eq_some_iff.1 hX).1
 have hX1:=(hb1.block XB hXl).trans hX
 have hold:=zxq XB x0 x1 x2 rv bv rs W1 hX1 (h.below hb1) hf hn hl
 have Hold:=zac hold
 have Hb1:=zac hb1
 have Hsz:=zac hsz
 have HB:=zac hB
 have HX1:=zac hX1
 have Hbt:=zac (hbt.below hb1)
 have Hf:=zac hf
 clear hold hb1 hsz hB h hf hn hX hX1 hbt
 go_enter Tryz.func142,Tryz.ntmps142
 go_wp2_with fail
 rw [← hW1]
 clear hW1
 refine (zaa Hold).mono ?_
 rintro e w2 ⟨sv2,vals,rfl,ho2,hv2,hb2,hs2⟩
 dsimp only
 obtain ⟨a2,cap2,rfl⟩:=zek ho2
 obtain ⟨w3,hw3⟩:∃ w3,w3=w2.alloc (.cells #[.slice a2 vals.length cap2,.int .i64 0] 124):=⟨_,rfl⟩
 have hb3:Below w2.heap.size w2 w3:=by rw [hw3];exact (Below.refl _ _).alloc (Nat.le_refl _) _
 have hB3:w3.heap[w2.heap.size]? = some (.cells #[.slice a2 vals.length cap2,.int .i64 0] 124 (0,0)):=by rw [hw3];exact zae _ _ _ rfl
 have ho3:w3.ownsRow (W1.heap.size+3) 197 1 (.slice a2 vals.length cap2) vals.length vals:=yma ho2 hb3
 have hb13:Below W1.heap.size W1 w3:=hb2.trans (hb3.mono hb2.size)
 have c4:w3.cell? ⟨XB,4,none⟩=some bv:=zab ((hb13.block XB (by have:=zaa Hsz;omega)).trans (zaa HX1)) 4
 have c42:(w2.alloc (.cells #[.slice a2 vals.length cap2,.int .i64 0] 124)).cell? ⟨XB,4,none⟩=some bv:=by rw [← hw3];exact c4
 have hs3:w3.heap.size=w2.heap.size+1:=by rw [hw3];simp
 have hlv:vals.length≤1000000000:=by rw [hv2.1];omega
 have hadd:Calls Tryz.prog 129 #[.pointer (some ⟨w2.heap.size,0,none⟩),bv] w3 fun e w'=>e=.returned (.tuple #[])∧∃ sv4 vals4,w'.heap[w2.heap.size]? = some (.cells #[sv4,.int .i64 0] 124 (0,0))∧w'.ownsRow (W1.heap.size+3) 197 1 sv4 vals4.length vals4∧zdz W1 vals4 (zh0 rs es)∧Below W1.heap.size w3 w':=by
  rcases zaa Hbt with ⟨rfl,rfl⟩|⟨b,o,cp,rfl,hrun⟩
  ·refine (zy6 w2.heap.size (.slice a2 vals.length cap2) 0 w3 hB3).mono ?_
   rintro e w' ⟨rfl,rfl⟩
   exact ⟨rfl,_,vals,hB3,ho3,by simpa [zh0] using hv2,Below.refl _ _⟩
  ·refine (zs4 w2.heap.size (.slice a2 vals.length cap2) vals 0 b o es.length cp (W1.heap.size+3) w3 hB3 ho3 (by omega) hlv hne).mono ?_
   rintro e w' ⟨rfl,sv',h1,h2,h3,h4,h5⟩
   refine ⟨rfl,sv',_,h1,h2,?_,h5.1,h5.2.1,h5.2.2,h3,fun k hk=>h4 k (by omega) (by omega) (fun e=>?_)⟩
   ·exact hv2.add hrun
   ·have:=zho ho3 e
    omega
 have Hadd:=zac hadd
 have Hb13:=zac hb13
 have Hs2:=zac hs2
 clear hadd hb13 hs2 hb3 hB3 ho3 hs3 hlv ho2 hv2 hb2
 go_wp2_with fail
 rw [← hw3]
 clear hw3
 try go_wp2_with fail
 refine (zaa Hadd).mono ?_
 rintro e w4 ⟨rfl,sv4,vals4,h1,h2,h3,h4⟩
 dsimp only
 have hgB:=(h4.block W.heap.size (by have:=zaa Hsz;omega)).trans (((zaa Hb13).block W.heap.size (by have:=zaa Hsz;omega)).trans (zaa HB))
 obtain ⟨a4,cap4,rfl⟩:=zek h2
 have y0:w4.cell? ⟨w2.heap.size,0,none⟩=some (.slice a4 vals4.length cap4):=zab h1 0
 have y1:w4.cell? ⟨w2.heap.size,1,none⟩=some (.int .i64 0):=zab h1 1
 have g0:w4.cell? ⟨W.heap.size,0,none⟩=some (.slice none 0 0):=zab hgB 0
 have g1:w4.cell? ⟨W.heap.size,1,none⟩=some (.int .i64 0):=zab hgB 1
 have f0:w4.frozen? ⟨W.heap.size,0,none⟩=false:=zad hgB 0
 have f1:w4.frozen? ⟨W.heap.size,1,none⟩=false:=zad hgB 1
 have hO:=zs0 h2 hgB
 have hb4:Below W.heap.size W w4:=(zaa Hb1).trans (((zaa Hb13).mono (zaa Hb1).size).trans (h4.mono (zaa Hb1).size))
 have hfm:∀ r∈zh0 rs es,r≠[]:=by
  intro r hr
  unfold zh0 at hr
  split at hr
  ·exact (zaa Hf) r hr
  ·rcases List.mem_append.1 hr with hr|hr
   ·exact (zaa Hf) r hr
   ·simp at hr;subst hr;assumption
 have hvW:=h3.down (zaa Hb1) (zaa Hsz) (zaa HB) (by decide) hfm
 have H2:=zac h2
 have HO:=zac hO
 have Hb4:=zac hb4
 have HvW:=zac hvW
 clear h1 h2 h3 h4 hgB hO hb4 hfm hvW
 go_wp2
 have hga:=za6 w4 ⟨W.heap.size,0,none⟩ (.slice a4 vals4.length cap4)
 have hgb:=za6 (w4.setCell ⟨W.heap.size,0,none⟩ (.slice a4 vals4.length cap4)) ⟨W.heap.size,1,none⟩ (.int .i64 0)
 have hgs:=hga.trans hgb
 have hb5:Below W.heap.size W ((w4.setCell ⟨W.heap.size,0,none⟩ (.slice a4 vals4.length cap4)).setCell ⟨W.heap.size,1,none⟩ (.int .i64 0)):=zbt (zbt (zaa Hb4) (Nat.le_refl _) _ _) (Nat.le_refl _) _ _
 have ho5:=(zaa H2).kept hgs (.inr (zaa HO))
 refine bodyPost_ret (v:=.agg #[.slice a4 vals4.length cap4,.int .i64 0]) (by simp [results,Tryz.results142,go_sem,g0,g1,f0,f1]) rfl ⟨.slice a4 vals4.length cap4,by simp,zlh ho5 (zaa HvW) hb5,hb5,fun g hg=>?_⟩
 have:=zho ho5 hg
 have:=zaa Hsz
 omega
end Go.Proofs.YtoifcnidhfnapabGreatDoor
