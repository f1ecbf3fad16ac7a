import Derived.Test.YtoifcnidhfnapaaGreatDoorB18
import Derived.Test.YtoifcnidhfnapaaGreatDoorB19
import Derived.Test.YtoifcnidhfnapaaGreatDoorB11
import Derived.Test.YtoifcnidhfnapaaGreatDoorB12
set_option linter.unusedVariables false
set_option linter.unusedSimpArgs false
set_option maxRecDepth 100000
set_option maxHeartbeats 16000000
namespace Go.Proofs.YtoifcnidhfnapaaGreatDoor
open Go.RowKit Go.Maps Go.Sort Go.Shelf
def zgh (r:List zaj):Prop:=r.Pairwise fun a b=>ltR a.1 b.1
theorem yf4 (x y:Row):zi4 x y<0↔ltR x y:=by
 rw [← zqw]
 simp [ltOf]
theorem yct (x y:Row):zi4 x y=if x.1<y.1 then -1 else if y.1<x.1 then 1 else if x.2.1<y.2.1 then -1 else if y.2.1<x.2.1 then 1 else if x.2.2<y.2.2 then -1 else if y.2.2<x.2.2 then 1 else 0:=by
 unfold zi4 zuq
 simp only [ztd,zql]
 repeat' split
 all_goals first|rfl|omega
theorem zoc (x y:Row):zi4 x y=0→x=y:=by
 rw [yct]
 intro h
 repeat' split at h
 all_goals first|(exfalso;omega)|exact Prod.ext (by omega) (Prod.ext (by omega) (by omega))
theorem yf5 (x y:Row):0<zi4 x y→ltR y x:=by
 rw [yct]
 unfold ltR
 intro h
 repeat' split at h
 all_goals omega
theorem zur {x y z:Row} (h:ltR x y) (k:ltR y z):ltR x z:=by
 unfold ltR at *
 omega
theorem zjd:∀ (a b:List zaj) (e:zaj),e∈zcq a b→∃ e',(e'∈a∨e'∈b)∧e'.1=e.1:=by
 intro a b
 refine mgI (M:=fun a b r=>∀ e,e∈r→∃ e',(e'∈a∨e'∈b)∧e'.1=e.1) ?_ ?_ ?_ ?_ ?_ ?_ a b
 ·intro b;intro e he;exact ⟨e,.inr he,rfl⟩
 ·intro x a;intro e he;exact ⟨e,.inl he,rfl⟩
 ·intro x a y b h ih
  intro e he
  rcases List.mem_cons.1 he with rfl|he
  ·exact ⟨e,.inl (List.mem_cons_self ..),rfl⟩
  ·obtain ⟨e',h1,h2⟩:=ih e he
   exact ⟨e',h1.imp (List.mem_cons_of_mem _) id,h2⟩
 ·intro x a y b h1 h2 ih
  intro e he
  rcases List.mem_cons.1 he with rfl|he
  ·exact ⟨e,.inr (List.mem_cons_self ..),rfl⟩
  ·obtain ⟨e',h1,h2⟩:=ih e he
   exact ⟨e',h1.imp id (List.mem_cons_of_mem _),h2⟩
 ·intro x a y b h1 h2 h3 ih
  intro e he
  obtain ⟨e',h1,h2⟩:=ih e he
  exact ⟨e',h1.imp (List.mem_cons_of_mem _) (List.mem_cons_of_mem _),h2⟩
 ·intro x a y b h1 h2 h3 ih
  intro e he
  rcases List.mem_cons.1 he with rfl|he
  ·exact ⟨x,.inl (List.mem_cons_self ..),rfl⟩
  ·obtain ⟨e',h1,h2⟩:=ih e he
   exact ⟨e',h1.imp (List.mem_cons_of_mem _) (List.mem_cons_of_mem _),h2⟩
theorem zq0 (a b:List zaj):(zcq a b).length≤a.length+b.length:=by
 refine mgI (M:=fun a b r=>r.length≤a.length+b.length) ?_ ?_ ?_ ?_ ?_ ?_ a b
 ·intro b;simp
 ·intro x a;simp
 ·intro x a y b h ih;simp at ih ⊢;omega
 ·intro x a y b h1 h2 ih;simp at ih ⊢;omega
 ·intro x a y b h1 h2 h3 ih;simp;omega
 ·intro x a y b h1 h2 h3 ih;simp;omega
theorem yfi (x y:zaj) (r:Row):wtB (r,wrap64 (x.2+y.2))=wtB x+wtB y:=by
 unfold wtB
 rw [zje,BitVec.ofInt_add]
theorem zqz (a b:List zaj):Eqv (zcq a b) (a ++ b):=by
 intro ψ
 refine mgI (M:=fun a b r=>zbz r (fun e=>ψ e.1*wtB e)=zbz (a ++ b) (fun e=>ψ e.1*wtB e)) ?_ ?_ ?_ ?_ ?_ ?_ a b
 ·intro b;rfl
 ·intro x a;rw [List.append_nil]
 ·intro x a y b h ih
  rw [List.cons_append]
  simp only [zbz]
  rw [ih]
 ·intro x a y b h1 h2 ih
  rw [zbf] at ih ⊢
  simp only [zbz] at ih ⊢
  rw [ih]
  grind
 ·intro x a y b h1 h2 h3 ih
  rw [zbf] at ih ⊢
  simp only [zbz] at ih ⊢
  have hxy:x.1=y.1:=zoc _ _ (by omega)
  have hw:=yfi x y x.1
  rw [h3] at hw
  have h0:wtB x+wtB y=0#64:=by rw [← hw];rfl
  rw [ih,← hxy]
  grind
 ·intro x a y b h1 h2 h3 ih
  rw [zbf] at ih ⊢
  simp only [zbz] at ih ⊢
  have hxy:x.1=y.1:=zoc _ _ (by omega)
  rw [ih,yfi,← hxy]
  grind
theorem zot (a b:List zaj):zgh a→zgh b→zgh (zcq a b):=by
 unfold zgh
 refine mgI (M:=fun a b r=>a.Pairwise (fun x y=>ltR x.1 y.1)→b.Pairwise (fun x y=>ltR x.1 y.1)→r.Pairwise (fun x y=>ltR x.1 y.1)) ?_ ?_ ?_ ?_ ?_ ?_ a b
 ·intro b;intro _ h;exact h
 ·intro x a;intro h _;exact h
 ·intro x a y b h ih
  intro ha hb
  have ha1:=List.pairwise_cons.1 ha
  have hb1:=List.pairwise_cons.1 hb
  have hxy:=(yf4 _ _).1 h
  refine List.pairwise_cons.2 ⟨fun e he=>?_,ih ha1.2 hb⟩
  obtain ⟨e',h1,h2⟩:=zjd _ _ e he
  rw [← h2]
  rcases h1 with h1|h1
  ·exact ha1.1 e' h1
  ·rcases List.mem_cons.1 h1 with rfl|h1
   ·exact hxy
   ·exact zur hxy (hb1.1 e' h1)
 ·intro x a y b h1 h2 ih
  intro ha hb
  have ha1:=List.pairwise_cons.1 ha
  have hb1:=List.pairwise_cons.1 hb
  have hyx:=yf5 _ _ h2
  refine List.pairwise_cons.2 ⟨fun e he=>?_,ih ha hb1.2⟩
  obtain ⟨e',h3,h4⟩:=zjd _ _ e he
  rw [← h4]
  rcases h3 with h3|h3
  ·rcases List.mem_cons.1 h3 with rfl|h3
   ·exact hyx
   ·exact zur hyx (ha1.1 e' h3)
  ·exact hb1.1 e' h3
 ·intro x a y b h1 h2 h3 ih
  intro ha hb
  exact ih (List.pairwise_cons.1 ha).2 (List.pairwise_cons.1 hb).2
 ·intro x a y b h1 h2 h3 ih
  intro ha hb
  have ha1:=List.pairwise_cons.1 ha
  have hb1:=List.pairwise_cons.1 hb
  have hxy:x.1=y.1:=zoc _ _ (by omega)
  refine List.pairwise_cons.2 ⟨fun e he=>?_,ih ha1.2 hb1.2⟩
  obtain ⟨e',h3,h4⟩:=zjd _ _ e he
  rw [← h4]
  show ltR x.1 e'.1
  rcases h3 with h3|h3
  ·exact ha1.1 e' h3
  ·rw [hxy];exact hb1.1 e' h3
theorem zgh.lex {r:List zaj} (h:zgh r):yj6 3 0 r:=by
 have s0:zbo 0 r:=h.imp fun {a b} hab=>by
  show a.1.1≤b.1.1
  unfold ltR at hab
  omega
 refine ⟨s0,fun z0=>?_⟩
 have e0:zxy 0 z0 r=r.filter fun e=>decide (zal e.1 0=z0):=yek s0 z0
 rw [e0]
 have p1:(r.filter fun e=>decide (zal e.1 0=z0)).Pairwise fun a b=>ltR a.1 b.1∧a.1.1=b.1.1:=by
  have hm:∀ e∈r.filter (fun e=>decide (zal e.1 0=z0)),e.1.1=z0:=fun e he=>by simpa [zal] using (List.mem_filter.1 he).2
  refine List.Pairwise.imp_of_mem (fun {a b} ha hb hab=>⟨hab,(hm a ha).trans (hm b hb).symm⟩) (List.Pairwise.sublist List.filter_sublist h)
 have s1:zbo 1 (r.filter fun e=>decide (zal e.1 0=z0)):=p1.imp fun {a b} hab=>by
  show a.1.2.1≤b.1.2.1
  have:=hab.1
  have:=hab.2
  unfold ltR at *
  omega
 refine ⟨s1,fun z1=>?_⟩
 rw [show zxy (0+1) z1 _=_ from yek s1 z1]
 have p2:((r.filter fun e=>decide (zal e.1 0=z0)).filter fun e=>decide (zal e.1 1=z1)).Pairwise fun a b=>(ltR a.1 b.1∧a.1.1=b.1.1)∧a.1.2.1=b.1.2.1:=by
  have hm:∀ e∈(r.filter fun e=>decide (zal e.1 0=z0)).filter (fun e=>decide (zal e.1 1=z1)),e.1.2.1=z1:=fun e he=>by simpa [zal] using (List.mem_filter.1 he).2
  refine List.Pairwise.imp_of_mem (fun {a b} ha hb hab=>⟨hab,(hm a ha).trans (hm b hb).symm⟩) (List.Pairwise.sublist List.filter_sublist p1)
 refine ⟨p2.imp fun {a b} hab=>?_,fun _=>trivial⟩
 show a.1.2.2≤b.1.2.2
 have:=hab.1.1
 have:=hab.1.2
 have:=hab.2
 unfold ltR at *
 omega
theorem zuw (a b:List zaj) (ha:∀ e∈a,zaw e.1) (hb:∀ e∈b,zaw e.1):∀ e∈zcq a b,zaw e.1:=by
 intro e he
 obtain ⟨e',h1,h2⟩:=zjd a b e he
 rw [← h2]
 exact h1.elim (ha e') (hb e')
def zeh (rs:List (List zaj)):List (List zaj):=rs.filter fun r=>!r.isEmpty
theorem yab (rs:List (List zaj)) (k:Nat) (hk:k<rs.length):zeh (rs.take (k+1))=if rs[k]?.getD []=[] then zeh (rs.take k) else zeh (rs.take k) ++ [rs[k]?.getD []]:=by
  unfold zeh
  rw [List.take_add_one,List.filter_append]
  simp only [hk,List.getElem?_eq_getElem,Option.toList_some,Option.getD_some]
  by_cases h:rs[k]=[]
  · rw [if_pos h,h];simp
  · rw [if_neg h];simp [h]
theorem ygd {rs:List (List zaj)} (h:∀ r∈rs,r≠[]):zeh rs=rs:=by
  unfold zeh
  rw [List.filter_eq_self]
  intro r hr
  have:=h r hr
  simp [this]
theorem zq6 (rs:List (List zaj)) (sv:Value) (W:World) (h:zay W sv rs) (hn:∀ r∈rs,r.length≤1000000000000) (hl:rs.length≤100000000) :
    Calls Tryz.prog 155 #[sv] W fun e w'=>∃ sv' vals,e=.returned (.agg #[sv',.int .i64 0])∧w'.ownsRow (W.heap.size+2) 141 1 sv' vals.length vals∧zdw W vals (zeh rs)∧Below W.heap.size W w'∧W.heap.size+2≤w'.heap.size:=by
  obtain ⟨a,cap,rfl,hx⟩:=h
  obtain ⟨W3,hW3⟩:∃ W3,W3=(W.alloc (.cells #[.slice none 0 0,.int .i64 0] 190)).alloc (.cells #[.slice none 0 0,.int .i64 0] 190):=⟨_,rfl⟩
  have hb3:Below W.heap.size W W3:=by rw [hW3];exact ((Below.refl _ _).alloc (Nat.le_refl _) _).alloc (by simp) _
  have hsz:W3.heap.size=W.heap.size+2:=by rw [hW3];simp
  have hB1:W3.heap[W.heap.size]? = some (.cells #[.slice none 0 0,.int .i64 0] 190 (0,0)):=by
    rw [hW3]
    exact (Below.heap_alloc _ _ _ (by simp)).trans (zae _ _ _ rfl)
  have hB2:W3.heap[W.heap.size+1]? = some (.cells #[.slice none 0 0,.int .i64 0] 190 (0,0)):=by
    rw [hW3]
    exact zae _ _ _ (by simp)
  have Hb3:=zac hb3
  have Hsz:=zac hsz
  have HB1:=zac hB1
  have HB2:=zac hB2
  have Hn:=zac hn
  have Hx:=zac hx
  clear hb3 hsz hB1 hB2 hn hx
  go_enter Tryz.func155,Tryz.ntmps155
  go_wp2
  rw [← hW3]
  clear hW3
  try go_wp2
  go_loopw [8] (fun i wr=>∃ (k:Nat) (svk:Value) (vals:List Value),k≤rs.length∧i=.int .i64 k∧wr.heap[W.heap.size+1]? = some (.cells #[svk,.int .i64 0] 190 (0,0))∧wr.ownsRow (W.heap.size+2) 141 1 svk vals.length vals∧vals.length≤k ∧
      zdw W vals (zeh (rs.take k))∧W3.heap.size≤wr.heap.size∧(∀ q,q<W3.heap.size→q≠W.heap.size+1→wr.heap[q]? = W3.heap[q]?)∧(wr.os=W3.os∧wr.tape=W3.tape∧wr.output=W3.output)) (fun i _=>rs.length - (intOf i).toNat)
  case atStart=>exact ⟨0,.slice none 0 0,[],Nat.zero_le _,rfl,zaa HB2,World.ownsRow_nil _ _ _ _,Nat.le_refl _,⟨rfl,fun i hi=>by simp [zeh] at hi⟩,Nat.le_refl _,fun _ _ _=>rfl,rfl,rfl,rfl⟩
  case round =>
    obtain ⟨k,svk,vals,hk,rfl,hR,hO,hvl,hV,hS,hF,hT⟩:=hrel
    by_cases hlt:k<rs.length
    · have hkx:(k:Int)<(rs.length:Int):=by omega
      obtain ⟨g,q,b,o,cp,rfl,d0,hr⟩:=(zaa Hx) k hlt
      have hmem:rs[k]?.getD []∈rs:=by simp [hlt]
      have hle:=(zaa Hn) _ hmem
      have hsucc:=yab rs k hlt
      have hgl:=World.block_lt_of_cell? W _ d0
      have hold:∀ q,q<W.heap.size→wr.heap[q]? = W.heap[q]?:=fun q hq=>(hF q (by rw [zaa Hsz];omega) (by omega)).trans ((zaa Hb3).block q hq)
      have d0':wr.cell? ⟨g,q+k,none⟩=_:=(World.cell?_of_block (w:=W) (a:=⟨g,q+k,none⟩) (hold g hgl)).trans d0
      obtain ⟨r,hre⟩:∃ r,r=rs[k]?.getD []:=⟨_,rfl⟩
      rw [← hre] at hr hle hsucc d0'
      have hwl:W.heap.size+2≤wr.heap.size:=by have:=zaa Hsz;omega
      have Hr:=zac hr
      have Hsucc:=zac hsucc
      have HR:=zac hR
      have HO:=zac hO
      have HV:=zac hV
      have HF:=zac hF
      have HT:=zac hT
      clear hsucc hR hO hV hF hT hold hr hre hmem d0
      go_wp2_with (first
        | (go_at_call 199;refine (zsu (W.heap.size+1) svk vals 0 b o r.length cp (W.heap.size+2) wr (zaa HR) (zaa HO) (by omega) (by omega) hle).mono ?_;rintro e w6 ⟨rfl,sv6,hR6,hO6,hs6,hk6,hos6⟩
           have hrel:∃ (k2:Nat) (svk:Value) (vals2:List Value),k2≤rs.length∧(k:Int)+1=(k2:Int)∧w6.heap[W.heap.size+1]? = some (.cells #[svk,.int .i64 0] 190 (0,0))∧w6.ownsRow (W.heap.size+2) 141 1 svk vals2.length vals2∧vals2.length≤k2 ∧
              zdw W vals2 (zeh (rs.take k2))∧W3.heap.size≤w6.heap.size∧(∀ q,q<W3.heap.size→q≠W.heap.size+1→w6.heap[q]? = W3.heap[q]?)∧(w6.os=W3.os∧w6.tape=W3.tape∧w6.output=W3.output):=by
            refine ⟨k+1,sv6,_,by omega,by simp,hR6,hO6,?_,?_,by omega,fun q hq hne=>?_,?_⟩
            · unfold zrq
              split
              · omega
              · simp;omega
            · rw [zaa Hsucc]
              exact (zaa HV).add (zaa Hr)
            · refine (hk6 q (by omega) hne (fun e=>?_)).trans ((zaa HF) q hq hne)
              have:=zhz (zaa HO) e
              have:=zaa Hsz
              omega
            · exact ⟨hos6.1.trans (zaa HT).1,hos6.2.1.trans (zaa HT).2.1,hos6.2.2.trans (zaa HT).2.2⟩
           have Hrel:=zac hrel
           clear hrel hR6 hO6 hs6 hk6 hos6))
      obtain ⟨k2,sv2,vals2,y1,y2,y3⟩:=zaa Hrel
      refine ⟨⟨k2,sv2,vals2,y1,by rw [y2],y3⟩,by simp [intOf];omega⟩
    · have hke:k=rs.length:=by omega
      subst hke
      rw [List.take_length] at hV
      obtain ⟨a2,cap2,rfl⟩:=zen hO
      have hB1r:wr.heap[W.heap.size]? = some (.cells #[.slice none 0 0,.int .i64 0] 190 (0,0)):=(hF _ (by rw [zaa Hsz];omega) (by omega)).trans (zaa HB1)
      have e0:wr.cell? ⟨W.heap.size+1,0,none⟩=some (.slice a2 vals.length cap2):=zab hR 0
      have e1:wr.cell? ⟨W.heap.size+1,1,none⟩=some (.int .i64 0):=zab hR 1
      have g0:wr.cell? ⟨W.heap.size,0,none⟩=some (.slice none 0 0):=zab hB1r 0
      have g1:wr.cell? ⟨W.heap.size,1,none⟩=some (.int .i64 0):=zab hB1r 1
      have f0:wr.frozen? ⟨W.heap.size,0,none⟩=false:=zad hB1r 0
      have f1:wr.frozen? ⟨W.heap.size,1,none⟩=false:=zad hB1r 1
      have hbw:Below W.heap.size W wr:=⟨hT.1.trans (zaa Hb3).os,hT.2.1.trans (zaa Hb3).tape,hT.2.2.trans (zaa Hb3).output,Nat.le_trans (zaa Hb3).size hS,fun q hq=>(hF q (by rw [zaa Hsz];omega) (by omega)).trans ((zaa Hb3).block q hq)⟩
      have hO2:=zsn hO hB1r
      have HO:=zac hO
      have HV:=zac hV
      have Hbw:=zac hbw
      have HS9:=zac hS
      have HO2:=zac hO2
      clear hO hV hF hT hbw hR hB1r hO2
      go_wp2
      have hga:=za5 wr ⟨W.heap.size,0,none⟩ (.slice a2 vals.length cap2)
      have hgb:=za5 (wr.setCell ⟨W.heap.size,0,none⟩ (.slice a2 vals.length cap2)) ⟨W.heap.size,1,none⟩ (.int .i64 0)
      have hgs:=hga.trans hgb
      have hb9:=(zaa Hbw).grown hgs (zaa Hbw).size (fun k e=>by cases e;simp)
      refine bodyPost_ret (v:=.agg #[.slice a2 vals.length cap2,.int .i64 0]) (by simp [results,Tryz.results155,go_sem,g0,g1,f0,f1]) rfl ⟨.slice a2 vals.length cap2,vals,by simp,(zaa HO).kept hgs (.inr (zaa HO2)),zaa HV,hb9,by simp [World.setCell];have:=zaa HS9;have:=zaa Hsz;omega⟩
theorem ybc (rs:List (List zaj)) (sv:Value) (W:World) (h:zay W sv rs) (hn:∀ r∈rs,r.length≤1000000000000) (hl:rs.length≤100000000) :
    Calls Tryz.prog 155 #[sv] W fun e w'=>∃ sv',e=.returned (.agg #[sv',.int .i64 0])∧zay w' sv' (zeh rs)∧Below W.heap.size W w'∧∀ g,sv'.ownBlock=some g→W.heap.size<g:=by
  refine (zq6 rs sv W h hn hl).mono ?_
  rintro e w' ⟨sv',vals,rfl,ho,hv,hb,_⟩
  exact ⟨sv',rfl,zla ho hv hb,hb,fun g hg=>by have:=zhz ho hg;omega⟩
theorem zay.aside2 {w w':World} {B:Nat} {v:Value} {rs:List (List zaj)} {cs:Array Value} {t:TypeId} (h:zay w v rs) (hB:w.heap[B]? = some (.cells cs t (0,0))) (hcs:∀ o i j,cs[o]? = some (.int .i64 i)→cs[o+1]? = some (.int .i64 j)→False)
    (hf:∀ r∈rs,r≠[]) (ho:rs≠[]→v.ownBlock≠some B) (hk:∀ q,q≠B→w'.heap[q]? = w.heap[q]?):zay w' v rs:=by
  obtain ⟨a,cap,rfl,hx⟩:=h
  refine ⟨a,cap,rfl,fun i hi=>?_⟩
  obtain ⟨g,q,b,o,cp,rfl,d0,hr⟩:=hx i hi
  have hne:rs≠[]:=by rintro rfl;simp at hi
  have hg:g≠B:=fun e=>ho hne (by rw [e];rfl)
  have hmem:rs[i]?.getD []∈rs:=by simp [hi]
  have hb:b≠B:=by
    rintro rfl
    obtain ⟨a',cap',e,_,hx⟩:=hr
    injection e with e1 e2 e3
    subst e1
    obtain ⟨b',o',e4,h0,h1,_,_⟩:=hx 0 (List.length_pos_iff.2 (hf _ hmem))
    injection e4 with e4
    injection e4 with e5 e6
    subst e5 e6
    rw [zab hB] at h0 h1
    simp only [Nat.zero_mul,Nat.add_zero] at h0 h1
    exact hcs _ _ _ h0 h1
  exact ⟨g,q,b,o,cp,rfl,(World.cell?_of_block (w:=w) (a:=⟨g,q+i,none⟩) (hk g hg)).trans d0,hr.back ((hk b hb).symm)⟩
theorem ya4 (v:Value) (c:Int) (hv:∀ i,v≠.int .i64 i):∀ (o:Nat) (i j:Int),(#[v,.int .i64 c]:Array Value)[o]? = some (.int .i64 i)→(#[v,.int .i64 c]:Array Value)[o+1]? = some (.int .i64 j)→False:=by
  intro o i j h0 h1
  match o,h0,h1 with
  | 0,h0,_=>exact hv i (Option.some.inj h0)
  | o+1,_,h1=>simp at h1
theorem zdw.down {W W1:World} {vals:List Value} {rs:List (List zaj)} (h:zdw W1 vals rs) (hb:Below W.heap.size W W1) (hs:W1.heap.size=W.heap.size+1) {cs:Array Value} {t:TypeId} (hB:W1.heap[W.heap.size]? = some (.cells cs t (0,0))) (ht:t≠221) (hf:∀ r∈rs,r≠[]):zdw W vals rs:=by
  obtain ⟨h1,h2⟩:=h
  refine ⟨h1,fun i hi=>?_⟩
  obtain ⟨b,o,cp,x0,x1,x2⟩:=h2 i hi
  have hne:rs[i]?.getD []≠[]:=hf _ (by simp [hi])
  obtain ⟨a',cap',e,_,hx'⟩:=id x2
  obtain ⟨b',o',e',_,_,_,_,cs',x4⟩:=hx' 0 (List.length_pos_iff.2 hne)
  injection e with e1 e2 e3
  have e4:=e1.trans e'
  injection e4 with e4
  injection e4 with e5 e6
  subst e5 e6
  have hbn:b≠W.heap.size:=fun e=>by
    rw [e,hB] at x4
    injection x4 with x4
    injection x4 with _ x5
    exact ht x5
  have hbl:b<W.heap.size:=by omega
  exact ⟨b,o,cp,hbl,x1,x2.back (hb.block b hbl)⟩
theorem zxo (XB:Nat) (x0 x1 x2 rv bv:Value) (rs:List (List zaj)) (W:World) (hX:W.heap[XB]? = some (.cells #[x0,x1,x2,rv,bv] 144 (0,0))) (h:zay W rv rs) (hf:∀ r∈rs,r≠[]) (hn:∀ r∈rs,r.length≤1000000000000) (hl:rs.length≤100000000) :
    Calls Tryz.prog 108 #[.pointer (some ⟨XB,0,none⟩)] W fun e w'=>∃ sv' vals,e=.returned (.agg #[sv',.int .i64 0])∧w'.ownsRow (W.heap.size+3) 141 1 sv' vals.length vals∧zdw W vals rs∧Below W.heap.size W w'∧W.heap.size+3≤w'.heap.size:=by
  obtain ⟨W1,hW1⟩:∃ W1,W1=W.alloc (.cells #[.slice none 0 0,.int .i64 0] 190):=⟨_,rfl⟩
  have hb1:Below W.heap.size W W1:=by rw [hW1];exact (Below.refl _ _).alloc (Nat.le_refl _) _
  have hsz:W1.heap.size=W.heap.size+1:=by rw [hW1];simp
  have hB:W1.heap[W.heap.size]? = some (.cells #[.slice none 0 0,.int .i64 0] 190 (0,0)):=by rw [hW1];exact zae _ _ _ rfl
  obtain ⟨ra,rcap,rfl,_⟩:=id h
  have hXl:XB<W.heap.size:=(Array.getElem?_eq_some_iff.1 hX).1
  have cW:W.cell? ⟨XB,3,none⟩=some (.slice ra rs.length rcap):=zab hX 3
  have c1:W1.cell? ⟨XB,3,none⟩=some (.slice ra rs.length rcap):=zab ((hb1.block XB hXl).trans hX) 3
  have Hb1:=zac hb1
  have Hsz:=zac hsz
  have HB:=zac hB
  have Hr1:=zac (h.below hb1)
  have Hf:=zac hf
  have Hn:=zac hn
  clear hb1 hsz hB h hf hn hX
  go_enter Tryz.func108,Tryz.ntmps108
  go_wp2_with (first
    | (go_at_call 155
       rw [← hW1]
       refine (zq6 rs (.slice ra rs.length rcap) W1 (zaa Hr1) (zaa Hn) hl).mono ?_
       rintro e w2 ⟨sv2,vals,rfl,ho2,hv2,hb2,hs2⟩
       rw [ygd (zaa Hf)] at hv2
       have hB2:=(hb2.block W.heap.size (by rw [zaa Hsz];omega)).trans (zaa HB)
       have g0:w2.cell? ⟨W.heap.size,0,none⟩=some (.slice none 0 0):=zab hB2 0
       have g1:w2.cell? ⟨W.heap.size,1,none⟩=some (.int .i64 0):=zab hB2 1
       have f0:w2.frozen? ⟨W.heap.size,0,none⟩=false:=zad hB2 0
       have f1:w2.frozen? ⟨W.heap.size,1,none⟩=false:=zad hB2 1
       have hO2:=zsn ho2 hB2
       obtain ⟨a2,cap2,rfl⟩:=zen ho2
       have Ho2:=zac ho2
       have HO2:=zac hO2
       have Hs2:=zac hs2
       have Hv2:=zac (hv2.down (zaa Hb1) (zaa Hsz) (zaa HB) (by decide) (zaa Hf))
       have Hb2:=zac ((zaa Hb1).trans (hb2.mono (zaa Hb1).size))
       have HB2:=zac hB2
       clear ho2 hO2 hv2 hb2 hB2 hs2))
  have hga:=za5 w2 ⟨W.heap.size,0,none⟩ (.slice a2 vals.length cap2)
  have hgb:=za5 (w2.setCell ⟨W.heap.size,0,none⟩ (.slice a2 vals.length cap2)) ⟨W.heap.size,1,none⟩ (.int .i64 0)
  have hgs:=hga.trans hgb
  refine bodyPost_ret (v:=.agg #[.slice a2 vals.length cap2,.int .i64 0]) (by simp [results,Tryz.results108,go_sem,g0,g1,f0,f1]) rfl ⟨.slice a2 vals.length cap2,vals,by simp,?_,zaa Hv2,?_,by simp [World.setCell];have:=zaa Hs2;have:=zaa Hsz;omega⟩
  · have:=(zaa Ho2).kept hgs (.inr (zaa HO2))
    rw [zaa Hsz] at this
    exact this
  · exact ((zaa Hb2).trans ⟨rfl,rfl,rfl,by simp [World.setCell],fun k hk=>(Below.heap_setCell _ _ _ k (by dsimp only;omega)).trans (Below.heap_setCell _ _ _ k (by dsimp only;omega))⟩)
theorem yi7 (XB:Nat) (x0 x1 x2 rv bv:Value) (rs:List (List zaj)) (W:World) (hX:W.heap[XB]? = some (.cells #[x0,x1,x2,rv,bv] 144 (0,0))) (h:zay W rv rs) (hf:∀ r∈rs,r≠[]) (hn:∀ r∈rs,r.length≤1000000000000) (hl:rs.length≤100000000) :
    Calls Tryz.prog 108 #[.pointer (some ⟨XB,0,none⟩)] W fun e w'=>∃ sv',e=.returned (.agg #[sv',.int .i64 0])∧zay w' sv' rs∧Below W.heap.size W w'∧∀ g,sv'.ownBlock=some g→W.heap.size<g:=by
  refine (zxo XB x0 x1 x2 rv bv rs W hX h hf hn hl).mono ?_
  rintro e w' ⟨sv',vals,rfl,ho,hv,hb,_⟩
  exact ⟨sv',rfl,zla ho hv hb,hb,fun g hg=>by have:=zhz ho hg;omega⟩
theorem ycd (XB:Nat) (x0 x1 x2 rv:Value) (b o cp:Nat) (es:List zaj) (W:World) (hX:W.heap[XB]? = some (.cells #[x0,x1,x2,rv,.slice (some ⟨b,o,none⟩) es.length cp] 144 (0,0))) (h:zb1 W (.slice (some ⟨b,o,none⟩) es.length cp) es) (hn:es.length≤1000000000000) :
    Calls Tryz.prog 214 #[.pointer (some ⟨XB,0,none⟩)] W fun e w'=>∃ sv',e=.returned (.agg #[sv',.int .i64 0])∧zay w' sv' (zeh [es])∧Below W.heap.size W w'∧∀ g,sv'.ownBlock=some g→W.heap.size<g:=by
  obtain ⟨W1,hW1⟩:∃ W1,W1=(W.alloc (.cells #[.slice none 0 0,.int .i64 0] 190)).alloc (.cells #[.slice (some ⟨b,o,none⟩) es.length cp] 141):=⟨_,rfl⟩
  have hb1:Below W.heap.size W W1:=by rw [hW1];exact ((Below.refl _ _).alloc (Nat.le_refl _) _).alloc (by simp) _
  have hsz:W1.heap.size=W.heap.size+2:=by rw [hW1];simp
  have hB:W1.heap[W.heap.size]? = some (.cells #[.slice none 0 0,.int .i64 0] 190 (0,0)):=by rw [hW1];exact (Below.heap_alloc _ _ _ (by simp)).trans (zae _ _ _ rfl)
  have hB9:W1.heap[W.heap.size+1]? = some (.cells #[.slice (some ⟨b,o,none⟩) es.length cp] 141 (0,0)):=by rw [hW1];exact zae _ _ _ (by simp)
  have hXl:XB<W.heap.size:=(Array.getElem?_eq_some_iff.1 hX).1
  have cW:W.cell? ⟨XB,4,none⟩=some (.slice (some ⟨b,o,none⟩) es.length cp):=zab hX 4
  have hr1:zay W1 (.slice (some ⟨W.heap.size+1,0,none⟩) 1 1) [es]:=by
    refine ⟨some ⟨W.heap.size+1,0,none⟩,1,rfl,fun i hi=>?_⟩
    have:i=0:=by simp at hi;omega
    subst this
    exact ⟨W.heap.size+1,0,b,o,cp,rfl,zab hB9 0,h.below hb1⟩
  have hf:∀ r∈zeh [es],r≠[]:=by
    intro r hr e
    unfold zeh at hr
    rw [List.mem_filter] at hr
    rw [e] at hr
    simp at hr
  have Hb1:=zac hb1
  have Hsz:=zac hsz
  have HB:=zac hB
  have Hr1:=zac hr1
  have Hf:=zac hf
  clear hb1 hsz hB h hX hB9 hr1 hf
  go_enter Tryz.func214,Tryz.ntmps214
  go_wp2_with (first
    | (go_at_call 155
       rw [← hW1]
       refine (ybc [es] (.slice (some ⟨W.heap.size+1,0,none⟩) 1 1) W1 (zaa Hr1) (fun r hr=>by simp at hr;rw [hr];exact hn) (by simp)).mono ?_
       rintro e w2 ⟨sv2,rfl,hr2,hb2,hown⟩
       have hB2:=(hb2.block W.heap.size (by rw [zaa Hsz];omega)).trans (zaa HB)
       have g0:w2.cell? ⟨W.heap.size,0,none⟩=some (.slice none 0 0):=zab hB2 0
       have g1:w2.cell? ⟨W.heap.size,1,none⟩=some (.int .i64 0):=zab hB2 1
       have f0:w2.frozen? ⟨W.heap.size,0,none⟩=false:=zad hB2 0
       have f1:w2.frozen? ⟨W.heap.size,1,none⟩=false:=zad hB2 1
       have hr3:=hr2
       obtain ⟨a2,cap2,rfl,_⟩:=hr2
       have Hr3:=zac hr3
       have Hown:=zac hown
       have Hb2:=zac ((zaa Hb1).trans (hb2.mono (zaa Hb1).size))
       have HB2:=zac hB2
       clear hr3 hown hb2 hB2))
  refine bodyPost_ret (v:=.agg #[.slice a2 (zeh [es]).length cap2,.int .i64 0]) (by simp [results,Tryz.results214,go_sem,g0,g1,f0,f1]) rfl ⟨.slice a2 (zeh [es]).length cap2,by simp,?_,?_,fun g hg=>?_⟩
  · refine (zaa Hr3).aside2 (zaa HB2) (ya4 _ _ (fun i e=>by cases e)) (zaa Hf) (fun _ e=>?_) (fun q hq=>?_)
    · have:=(zaa Hown) _ e
      rw [zaa Hsz] at this
      omega
    · iterate 2 refine (Below.heap_setCell _ _ _ q (fun e=>hq e)).trans ?_
      rfl
  · exact ((zaa Hb2).trans ⟨rfl,rfl,rfl,by simp [World.setCell],fun k hk=>(Below.heap_setCell _ _ _ k (by dsimp only;omega)).trans (Below.heap_setCell _ _ _ k (by dsimp only;omega))⟩)
  · have:=(zaa Hown) g hg
    rw [zaa Hsz] at this
    omega
theorem zzc (B:Nat) (sv:Value) (c:Int) (W:World) (hB:W.heap[B]? = some (.cells #[sv,.int .i64 c] 190 (0,0))) :
    Calls Tryz.prog 199 #[.pointer (some ⟨B,0,none⟩),.slice none 0 0] W fun e w'=>e=.returned (.tuple #[])∧w'=W:=by
  have c0:W.cell? ⟨B,0,none⟩=some sv:=zab hB 0
  clear hB
  go_enter Tryz.func199,Tryz.ntmps199
  go_wp2
  go_end0
  exact ⟨rfl,rfl⟩
def zcg (w:World) (v:Value) (es:List zaj):Prop:=(v=.slice none 0 0∧es=[])∨∃ b o cp,v=.slice (some ⟨b,o,none⟩) es.length cp∧zb1 w v es
theorem zcg.below {w w':World} {v:Value} {es:List zaj} (h:zcg w v es) (hb:Below w.heap.size w w'):zcg w' v es:=by
 rcases h with h|⟨b,o,cp,h1,h2⟩
 ·exact .inl h
 ·exact .inr ⟨b,o,cp,h1,h2.below hb⟩
def zh9 (rs:List (List zaj)) (es:List zaj):List (List zaj):=if es=[] then rs else rs ++ [es]
theorem ygj (XB:Nat) (x0 x1 x2 rv bv:Value) (rs:List (List zaj)) (es:List zaj) (W:World) (hX:W.heap[XB]? = some (.cells #[x0,x1,x2,rv,bv] 144 (0,0))) (h:zay W rv rs) (hbt:zcg W bv es) (hf:∀ r∈rs,r≠[]) (hn:∀ r∈rs,r.length≤1000000000000) (hl:rs.length≤100000000) (hne:es.length≤1000000000000) :
  Calls Tryz.prog 213 #[.pointer (some ⟨XB,0,none⟩)] W fun e w'=>∃ sv',e=.returned (.agg #[sv',.int .i64 0])∧zay w' sv' (zh9 rs es)∧Below W.heap.size W w'∧∀ g,sv'.ownBlock=some g→W.heap.size<g:=by
 obtain ⟨W1,hW1⟩:∃ W1,W1=W.alloc (.cells #[.slice none 0 0,.int .i64 0] 190):=⟨_,rfl⟩
 have hb1:Below W.heap.size W W1:=by rw [hW1];exact (Below.refl _ _).alloc (Nat.le_refl _) _
 have hsz:W1.heap.size=W.heap.size+1:=by rw [hW1];simp
 have hB:W1.heap[W.heap.size]? = some (.cells #[.slice none 0 0,.int .i64 0] 190 (0,0)):=by rw [hW1];exact zae _ _ _ rfl
 have hXl:XB<W.heap.size:=(Array.getElem?_eq_some_iff.1 hX).1
 have hX1:=(hb1.block XB hXl).trans hX
 have hold:=zxo XB x0 x1 x2 rv bv rs W1 hX1 (h.below hb1) hf hn hl
 have Hold:=zac hold
 have Hb1:=zac hb1
 have Hsz:=zac hsz
 have HB:=zac hB
 have HX1:=zac hX1
 have Hbt:=zac (hbt.below hb1)
 have Hf:=zac hf
 clear hold hb1 hsz hB h hf hn hX hX1 hbt
 go_enter Tryz.func213,Tryz.ntmps213
 go_wp2_with fail
 rw [← hW1]
 clear hW1
 refine (zaa Hold).mono ?_
 rintro e w2 ⟨sv2,vals,rfl,ho2,hv2,hb2,hs2⟩
 dsimp only
 obtain ⟨a2,cap2,rfl⟩:=zen ho2
 obtain ⟨w3,hw3⟩:∃ w3,w3=w2.alloc (.cells #[.slice a2 vals.length cap2,.int .i64 0] 190):=⟨_,rfl⟩
 have hb3:Below w2.heap.size w2 w3:=by rw [hw3];exact (Below.refl _ _).alloc (Nat.le_refl _) _
 have hB3:w3.heap[w2.heap.size]? = some (.cells #[.slice a2 vals.length cap2,.int .i64 0] 190 (0,0)):=by rw [hw3];exact zae _ _ _ rfl
 have ho3:w3.ownsRow (W1.heap.size+3) 141 1 (.slice a2 vals.length cap2) vals.length vals:=yk8 ho2 hb3
 have hb13:Below W1.heap.size W1 w3:=hb2.trans (hb3.mono hb2.size)
 have c4:w3.cell? ⟨XB,4,none⟩=some bv:=zab ((hb13.block XB (by have:=zaa Hsz;omega)).trans (zaa HX1)) 4
 have c42:(w2.alloc (.cells #[.slice a2 vals.length cap2,.int .i64 0] 190)).cell? ⟨XB,4,none⟩=some bv:=by rw [← hw3];exact c4
 have hs3:w3.heap.size=w2.heap.size+1:=by rw [hw3];simp
 have hlv:vals.length≤1000000000:=by rw [hv2.1];omega
 have hadd:Calls Tryz.prog 199 #[.pointer (some ⟨w2.heap.size,0,none⟩),bv] w3 fun e w'=>e=.returned (.tuple #[])∧∃ sv4 vals4,w'.heap[w2.heap.size]? = some (.cells #[sv4,.int .i64 0] 190 (0,0))∧w'.ownsRow (W1.heap.size+3) 141 1 sv4 vals4.length vals4∧zdw W1 vals4 (zh9 rs es)∧Below W1.heap.size w3 w':=by
  rcases zaa Hbt with ⟨rfl,rfl⟩|⟨b,o,cp,rfl,hrun⟩
  ·refine (zzc w2.heap.size (.slice a2 vals.length cap2) 0 w3 hB3).mono ?_
   rintro e w' ⟨rfl,rfl⟩
   exact ⟨rfl,_,vals,hB3,ho3,by simpa [zh9] using hv2,Below.refl _ _⟩
  ·refine (zsu w2.heap.size (.slice a2 vals.length cap2) vals 0 b o es.length cp (W1.heap.size+3) w3 hB3 ho3 (by omega) hlv hne).mono ?_
   rintro e w' ⟨rfl,sv',h1,h2,h3,h4,h5⟩
   refine ⟨rfl,sv',_,h1,h2,?_,h5.1,h5.2.1,h5.2.2,h3,fun k hk=>h4 k (by omega) (by omega) (fun e=>?_)⟩
   ·exact hv2.add hrun
   ·have:=zhz ho3 e
    omega
 have Hadd:=zac hadd
 have Hb13:=zac hb13
 have Hs2:=zac hs2
 clear hadd hb13 hs2 hb3 hB3 ho3 hs3 hlv ho2 hv2 hb2
 go_wp2_with fail
 rw [← hw3]
 clear hw3
 try go_wp2_with fail
 refine (zaa Hadd).mono ?_
 rintro e w4 ⟨rfl,sv4,vals4,h1,h2,h3,h4⟩
 dsimp only
 have hgB:=(h4.block W.heap.size (by have:=zaa Hsz;omega)).trans (((zaa Hb13).block W.heap.size (by have:=zaa Hsz;omega)).trans (zaa HB))
 obtain ⟨a4,cap4,rfl⟩:=zen h2
 have y0:w4.cell? ⟨w2.heap.size,0,none⟩=some (.slice a4 vals4.length cap4):=zab h1 0
 have y1:w4.cell? ⟨w2.heap.size,1,none⟩=some (.int .i64 0):=zab h1 1
 have g0:w4.cell? ⟨W.heap.size,0,none⟩=some (.slice none 0 0):=zab hgB 0
 have g1:w4.cell? ⟨W.heap.size,1,none⟩=some (.int .i64 0):=zab hgB 1
 have f0:w4.frozen? ⟨W.heap.size,0,none⟩=false:=zad hgB 0
 have f1:w4.frozen? ⟨W.heap.size,1,none⟩=false:=zad hgB 1
 have hO:=zsn h2 hgB
 have hb4:Below W.heap.size W w4:=(zaa Hb1).trans (((zaa Hb13).mono (zaa Hb1).size).trans (h4.mono (zaa Hb1).size))
 have hfm:∀ r∈zh9 rs es,r≠[]:=by
  intro r hr
  unfold zh9 at hr
  split at hr
  ·exact (zaa Hf) r hr
  ·rcases List.mem_append.1 hr with hr|hr
   ·exact (zaa Hf) r hr
   ·simp at hr;subst hr;assumption
 have hvW:=h3.down (zaa Hb1) (zaa Hsz) (zaa HB) (by decide) hfm
 have H2:=zac h2
 have HO:=zac hO
 have Hb4:=zac hb4
 have HvW:=zac hvW
 clear h1 h2 h3 h4 hgB hO hb4 hfm hvW
 go_wp2
 have hga:=za5 w4 ⟨W.heap.size,0,none⟩ (.slice a4 vals4.length cap4)
 have hgb:=za5 (w4.setCell ⟨W.heap.size,0,none⟩ (.slice a4 vals4.length cap4)) ⟨W.heap.size,1,none⟩ (.int .i64 0)
 have hgs:=hga.trans hgb
 have hb5:Below W.heap.size W ((w4.setCell ⟨W.heap.size,0,none⟩ (.slice a4 vals4.length cap4)).setCell ⟨W.heap.size,1,none⟩ (.int .i64 0)):=zbu (zbu (zaa Hb4) (Nat.le_refl _) _ _) (Nat.le_refl _) _ _
 have ho5:=(zaa H2).kept hgs (.inr (zaa HO))
 refine bodyPost_ret (v:=.agg #[.slice a4 vals4.length cap4,.int .i64 0]) (by simp [results,Tryz.results213,go_sem,g0,g1,f0,f1]) rfl ⟨.slice a4 vals4.length cap4,by simp,zla ho5 (zaa HvW) hb5,hb5,fun g hg=>?_⟩
 have:=zhz ho5 hg
 have:=zaa Hsz
 omega
end Go.Proofs.YtoifcnidhfnapaaGreatDoor
