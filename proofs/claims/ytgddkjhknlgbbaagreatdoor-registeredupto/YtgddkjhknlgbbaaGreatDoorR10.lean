import Derived.Test.YtgddkjhknlgbbaaGreatDoorR05
import Derived.Test.YtgddkjhknlgbbaaGreatDoorR08
import Derived.Test.YtgddkjhknlgbbaaGreatDoorR09
import Derived.Deep.Cut
set_option linter.unusedVariables false
set_option linter.unusedSimpArgs false

namespace Go.Proofs.YtgddkjhknlgbbaaGreatDoor
set_option linter.unusedVariables false
set_option linter.unusedSimpArgs false
open Go.RowKit Go.Maps Go.Sort Go.Shelf

/-- Pieces that read so. -/
def PcsAt (w:World) (v:Value) (ps:List Pc):Prop:=
 ∃ a cap,v=.slice a ps.length cap∧∀ i,i<ps.length→∃ b o,a=some ⟨b,o,none⟩∧b<w.heap.size∧w.cell? ⟨b,o+i*3,none⟩=some (.int .u8 ((ps[i]?.getD zeroPc).m:Nat))∧w.cell? ⟨b,o+i*3+1,none⟩=some (.string (ps[i]?.getD zeroPc).s)∧w.cell? ⟨b,o+i*3+2,none⟩=some (.int .i64 ((ps[i]?.getD zeroPc).i:Nat))
theorem PcsAt.below {w w':World} {v:Value} {ps:List Pc} (h:PcsAt w v ps) (hb:Below w.heap.size w w'):PcsAt w' v ps:=by
 obtain ⟨a,cap,rfl,hx⟩:=h
 refine ⟨a,cap,rfl,fun i hi=>?_⟩
 obtain ⟨b,o,e,hl,h0,h1,h2⟩:=hx i hi
 exact ⟨b,o,e,Nat.lt_of_lt_of_le hl hb.size,(hb.cell (p:=⟨b,_,none⟩) hl).trans h0,(hb.cell (p:=⟨b,_,none⟩) hl).trans h1,(hb.cell (p:=⟨b,_,none⟩) hl).trans h2⟩
theorem pcs_of_own {w:World} {base:Nat} {v:Value} {ps:List Pc} (h:w.ownsRow base 147 3 v ps.length (pcCells ps)):PcsAt w v ps:=by
 obtain ⟨p,c,rfl,hle,hn,hs⟩:=own_form h
 refine ⟨p,c,rfl,fun i hi=>?_⟩
 cases p with
 | none=>have:=(hn rfl).1;omega
 | some ad =>
  obtain ⟨g,rfl,_,hg,hc⟩:=hs ad rfl
  have hf:∀ j,j<3→w.cell? ⟨g,0+i*3+j,none⟩=(pcL (ps[i]?.getD zeroPc))[j]?:=fun j hj=>by
   rw [Nat.zero_add,hc (i*3+j) (by omega)]
   have:=flat_at 3 pcL (fun x=>rfl) ps i j hi hj
   unfold pcCells
   rw [this]
   simp [hi]
  exact ⟨g,0,rfl,hg,hf 0 (by omega),hf 1 (by omega),hf 2 (by omega)⟩

def w_cells (w:World) (b o:Nat) (ps:List Pc) (i:Nat):Prop:=w.cell? ⟨b,o+i*3,none⟩=some (.int .u8 ((ps[i]?.getD zeroPc).m:Nat))∧w.cell? ⟨b,o+i*3+1,none⟩=some (.string (ps[i]?.getD zeroPc).s)∧w.cell? ⟨b,o+i*3+2,none⟩=some (.int .i64 ((ps[i]?.getD zeroPc).i:Nat))

/-- What listed says,from the bracket at a on. -/
def ListedSaid (W:World) (ps:List Pc) (a least most:Nat) (e:Ending) (w':World):Prop:=
 (∃ v out k,a<ps.length∧(ps[a]?.getD zeroPc).m=40∧k<ps.length∧a<k∧itemsT true ((ps.map tokP).drop (a+1))=some (out.map tokP,(ps.map tokP).drop (k+1))∧(∀ x∈out,x∈ps)∧out.length≤ps.length∧e=.returned (.tuple #[v,.int .i64 (k:Nat),.bool (decide (least≤out.length) && decide (out.length≤most))])∧w'.ownsRow W.heap.size 147 3 v out.length (pcCells out)∧Below W.heap.size W w') ∨
 (∃ sa sn sc n,(ps.length≤a∨(ps[a]?.getD zeroPc).m≠40∨itemsT true ((ps.map tokP).drop (a+1))=none)∧e=.returned (.tuple #[.slice sa sn sc,.int .i64 n,.bool false])∧Below W.heap.size W w')

structure LB (W:World) (ps:List Pc) (a k:Nat) (out:List Pc) (v:Value) (wr:World):Prop where
 lo:a<k
 le:k≤ps.length
 rel:LRel ps a k out
 mem:∀ x∈out,x∈ps
 len:out.length≤k
 own:wr.ownsRow W.heap.size 147 3 v out.length (pcCells out)
 bel:Below W.heap.size W wr

theorem LB.more {W:World} {ps:List Pc} {a k q:Nat} {out:List Pc} {v v':Value} {wr w2:World} {x:Pc} (h:LB W ps a k out v wr) (hpq:k<q) (hq:q≤ps.length) (hr:LRel ps a q (out ++ [x])) (hx:x∈ps) (ho:w2.ownsRow W.heap.size 147 3 v' (out.length+1) (pcCells out ++ pcL x)) (hb:Below W.heap.size W w2):LB W ps a q (out ++ [x]) v' w2:=by
 refine ⟨by have:=h.lo;omega,hq,hr,fun y hy=>?_,by have:=h.len;simp;omega,?_,hb⟩
 ·rcases List.mem_append.1 hy with hy|hy
  ·exact h.mem y hy
  ·rw [List.mem_singleton.1 hy];exact hx
 ·rw [pcCells_snoc];simpa using ho

set_option maxRecDepth 100000 in
set_option maxHeartbeats 16000000 in
theorem listed_any (v:Value) (ps:List Pc) (a least most:Nat) (W:World) (hv:PcsAt W v ps) (hw:∀ x∈ps,WfPc x) (hl:ps.length≤1000) (ha:a≤100000) (hle:least≤1000) (hmo:most≤1000) :
  Calls Tryz.prog 79 #[v,.int .i64 a,.int .i64 least,.int .i64 most] W (ListedSaid W ps a least most):=by
 obtain ⟨pa,pcap,rfl,hx⟩:=hv
 obtain ⟨i147,hi,hz0,hz1,hz2⟩:=info_parts Tryz.info147
 by_cases hal:a<ps.length
 ·have haz:¬ (ps.length:Int)≤(a:Int):=by omega
  obtain ⟨b0,o0,rfl,hbl,d0,d1,d2⟩:=hx a hal
  have hxw:∀ i,i<ps.length→w_cells W b0 o0 ps i:=fun i hi=>by
   obtain ⟨b,o,e,_,h0,h1,h2⟩:=hx i hi
   cases e
   exact ⟨h0,h1,h2⟩
  obtain ⟨m0,hm0⟩:∃ m0,m0=(ps[a]?.getD zeroPc).m:=⟨_,rfl⟩
  rw [← hm0] at d0
  by_cases h40:m0=40
  ·subst h40
   replace d0:W.cell? ⟨b0,o0+a*3,none⟩=some (.int .u8 40):=d0
   have Hx:=hide hxw
   have Hw:=hide hw
   have Hm0:=hide hm0
   clear hx hxw hw hm0 d1 d2
   go_enter Tryz.func79,Tryz.ntmps79
   go_wp2
   clear d0
   go_loopw [1,11] (fun i vo wr=>∃ (k:Nat) (out:List Pc),i=.int .i64 k∧LB W ps a k out vo wr) (fun i _ _=>ps.length - (intOf i).toNat)
   case atStart=>exact ⟨a+1,[],by go_num,⟨by omega,by omega,LRel.start ps a,by simp,by simp,World.ownsRow_nil _ _ _ _,Below.refl _ _⟩⟩
   case round =>
    obtain ⟨k,out,rfl,hL⟩:=hrel
    have hBs:=hL.bel.size
    have hkl:=hL.le
    have hka:=hL.lo
    have hol:=hL.len
    obtain ⟨vp,vc,rfl⟩:∃ vp vc,u11=.slice vp out.length vc:=by
     rcases hL.own.2 with ⟨rfl,h0⟩|⟨g,cap',cur,rfl,_⟩
     ·exact ⟨none,0,by rw [h0]⟩
     ·exact ⟨_,_,rfl⟩
    by_cases hlt:k<ps.length
    ·have hkz:(k:Int)<(ps.length:Int):=by omega
     have hkz':¬ (ps.length:Int)≤(k:Int):=by omega
     have hxk:=(unhide Hx) k hlt
     have hwk:=(unhide Hw) _ (show ps[k]?.getD zeroPc∈ps by simp [hlt])
     have hmk:ps[k]?.getD zeroPc∈ps:=by simp [hlt]
     obtain ⟨c0,c1,c2⟩:=hxk
     replace c0:=(hL.bel.cell (p:=⟨b0,_,none⟩) hbl).trans c0
     replace c1:=(hL.bel.cell (p:=⟨b0,_,none⟩) hbl).trans c1
     replace c2:=(hL.bel.cell (p:=⟨b0,_,none⟩) hbl).trans c2
     have hs41:=hL.rel.shut hlt
     have hb1:=hL.rel.bad1 hlt
     have hf1:=hL.rel.first hlt
     have hf2:=hL.rel.firstbad hlt
     have hn1:=hL.rel.next (k:=k)
     have hn2:=hL.rel.nextend (k:=k)
     have hn3:=hL.rel.nextbad (k:=k)
     generalize ps[k]?.getD zeroPc=x at *
     obtain ⟨m,xs,xi⟩:=x
     dsimp only at *
     have HL:=hide hL
     have Ho:=hide hL.own
     have HB:=hide hL.bel
     clear hL
     by_cases h41:m=41
     ·subst h41
      replace c0:wr.cell? ⟨b0,o0+k*3,none⟩=some (.int .u8 41):=c0
      have Hs:=hide (hs41 rfl)
      have HL':=HL
      have Hfin:Hid (ListedSaid W ps a least most (.returned (.tuple #[.slice vp out.length vc,.int .i64 (k:Nat),.bool (decide (least≤out.length) && decide (out.length≤most))])) wr):=.inl ⟨_,out,k,hal,(unhide Hm0).symm,hlt,hka,unhide Hs,(unhide HL).mem,by omega,rfl,unhide Ho,unhide HB⟩
      clear hs41 hb1 hf1 hf2 hn1 hn2 hn3 hwk hmk
      by_cases q1:least≤out.length
      ·have r1:(least:Int)≤(out.length:Int):=by omega
       by_cases q2:out.length≤most
       ·have r2:(out.length:Int)≤(most:Int):=by omega
        rw [decide_eq_true q1,decide_eq_true q2] at Hfin
        clear q1 q2
        go_wp2
        go_ret3
        exact unhide Hfin
       ·have r2:¬ (out.length:Int)≤(most:Int):=by omega
        rw [decide_eq_true q1,decide_eq_false q2] at Hfin
        clear q1 q2
        go_wp2
        go_ret3
        exact unhide Hfin
      ·have r1:¬ (least:Int)≤(out.length:Int):=by omega
       rw [decide_eq_false q1,Bool.false_and] at Hfin
       clear q1
       go_wp2
       go_ret3
       exact unhide Hfin
     ·have e41:((m:Int) != 41)=true:=by simpa using (show ¬ (m:Int)=41 by omega)
      by_cases ho:out=[]
      ·have hz:¬ (0:Int)<(out.length:Int):=by rw [ho];decide
       by_cases hit:m=118∨m=100
       ·have Hr:=hide (hf1 ho hit)
        have hnew:=cells3_new wr (.int .u8 m) (.string xs) (.int .i64 xi) 147
        have Hmk:=hide hmk
        have hz2':(((m:Int) != 118)=false)∨(((m:Int) != 118)=true∧((m:Int) != 100)=false):=by
         rcases hit with h|h
         ·left;subst h;rfl
         ·right;subst h;exact ⟨rfl,rfl⟩
        clear hs41 hb1 hf1 hf2 hn1 hn2 hn3 hwk hmk hit ho h41
        rcases hz2' with t1|⟨t1,t2⟩
        ·go_wp2_with (first
          | (at_builtin;refine wpList_append_own_at _ rfl _ _ 141 rfl W.heap.size 147 i147 _ 3 32 Tryz.underlying141 hi hz0 hz1 hz2 rfl (by decide) _ _ _ rfl ((unhide Ho).alloc _) ⟨wr.heap.size,0,none⟩ 1 1 [.int .u8 m,.string xs,.int .i64 xi] rfl rfl hnew (by simp [Value.oneCell']) (by unfold maxLen;omega) (by omega) (by simp;omega) ?_;intro v' w2 ho2 hg2 _ _;have HB2:=hide (((unhide HB).alloc hBs _).grown hg2 (by simp;omega) (fun j e=>(own_block (unhide Ho) j e).1));obtain ⟨g',cap',rfl⟩:=own_succ ho2;have Ho2:=hide ho2;clear ho2 hg2 hnew))
         go_roundw
         case rel=>exact ⟨k+1,_,by go_num,(unhide HL).more (by omega) (by omega) (unhide Hr) (unhide Hmk) (unhide Ho2) (unhide HB2)⟩
         case measure=>simp [intOf];omega
        ·go_wp2_with (first
          | (at_builtin;refine wpList_append_own_at _ rfl _ _ 141 rfl W.heap.size 147 i147 _ 3 32 Tryz.underlying141 hi hz0 hz1 hz2 rfl (by decide) _ _ _ rfl ((unhide Ho).alloc _) ⟨wr.heap.size,0,none⟩ 1 1 [.int .u8 m,.string xs,.int .i64 xi] rfl rfl hnew (by simp [Value.oneCell']) (by unfold maxLen;omega) (by omega) (by simp;omega) ?_;intro v' w2 ho2 hg2 _ _;have HB2:=hide (((unhide HB).alloc hBs _).grown hg2 (by simp;omega) (fun j e=>(own_block (unhide Ho) j e).1));obtain ⟨g',cap',rfl⟩:=own_succ ho2;have Ho2:=hide ho2;clear ho2 hg2 hnew))
         go_roundw
         case rel=>exact ⟨k+1,_,by go_num,(unhide HL).more (by omega) (by omega) (unhide Hr) (unhide Hmk) (unhide Ho2) (unhide HB2)⟩
         case measure=>simp [intOf];omega
       ·have t1:((m:Int) != 118)=true:=by simpa using (show ¬ (m:Int)=118 by omega)
        have t2:((m:Int) != 100)=true:=by simpa using (show ¬ (m:Int)=100 by omega)
        have Hn:=hide (hf2 ho hwk h41 (fun h=>hit (.inl h)) (fun h=>hit (.inr h)))
        clear hs41 hb1 hf1 hf2 hn1 hn2 hn3 hwk hmk hit ho h41
        go_wp2
        go_ret3
        exact .inr ⟨_,_,_,_,.inr (.inr (unhide Hn)),rfl,unhide HB⟩
      ·have hz:(0:Int)<(out.length:Int):=by
        have:out.length≠0:=fun h=>ho (List.length_eq_zero_iff.1 h)
        omega
       by_cases h44:m=44
       ·subst h44
        replace c0:wr.cell? ⟨b0,o0+k*3,none⟩=some (.int .u8 44):=c0
        by_cases hlt2:k+1<ps.length
        ·have hkz2:¬ (ps.length:Int)≤(k:Int)+1:=by omega
         have hxk2:=(unhide Hx) (k+1) hlt2
         have hwk2:=(unhide Hw) _ (show ps[k+1]?.getD zeroPc∈ps by simp [hlt2])
         have hmk2:ps[k+1]?.getD zeroPc∈ps:=by simp [hlt2]
         obtain ⟨f0,f1,f2⟩:=hxk2
         replace f0:=((unhide HB).cell (p:=⟨b0,_,none⟩) hbl).trans f0
         replace f1:=((unhide HB).cell (p:=⟨b0,_,none⟩) hbl).trans f1
         replace f2:=((unhide HB).cell (p:=⟨b0,_,none⟩) hbl).trans f2
         have hq1:=hn1 hlt2 ho rfl
         have hq3:=hn3 hlt2 ho rfl hwk2
         generalize ps[k+1]?.getD zeroPc=y at *
         obtain ⟨my,ys,yi⟩:=y
         dsimp only at *
         by_cases hit:my=118∨my=100
         ·have Hr:=hide (hq1 hit)
          have hnew:=cells3_new wr (.int .u8 my) (.string ys) (.int .i64 yi) 147
          have Hmk:=hide hmk2
          have hz2':(((my:Int) != 118)=false)∨(((my:Int) != 118)=true∧((my:Int) != 100)=false):=by
           rcases hit with h|h
           ·left;subst h;rfl
           ·right;subst h;exact ⟨rfl,rfl⟩
          clear hs41 hb1 hf1 hf2 hn1 hn2 hn3 hwk hmk hit ho h41 hq1 hq3 hmk2 hwk2
          rcases hz2' with t1|⟨t1,t2⟩
          ·go_wp2_with (first
            | (at_builtin;refine wpList_append_own_at _ rfl _ _ 141 rfl W.heap.size 147 i147 _ 3 32 Tryz.underlying141 hi hz0 hz1 hz2 rfl (by decide) _ _ _ rfl ((unhide Ho).alloc _) ⟨wr.heap.size,0,none⟩ 1 1 [.int .u8 my,.string ys,.int .i64 yi] rfl rfl hnew (by simp [Value.oneCell']) (by unfold maxLen;omega) (by omega) (by simp;omega) ?_;intro v' w2 ho2 hg2 _ _;have HB2:=hide (((unhide HB).alloc hBs _).grown hg2 (by simp;omega) (fun j e=>(own_block (unhide Ho) j e).1));obtain ⟨g',cap',rfl⟩:=own_succ ho2;have Ho2:=hide ho2;clear ho2 hg2 hnew))
           go_roundw
           case rel=>exact ⟨k+2,_,by go_num,(unhide HL).more (by omega) (by omega) (unhide Hr) (unhide Hmk) (unhide Ho2) (unhide HB2)⟩
           case measure=>simp [intOf];omega
          ·go_wp2_with (first
            | (at_builtin;refine wpList_append_own_at _ rfl _ _ 141 rfl W.heap.size 147 i147 _ 3 32 Tryz.underlying141 hi hz0 hz1 hz2 rfl (by decide) _ _ _ rfl ((unhide Ho).alloc _) ⟨wr.heap.size,0,none⟩ 1 1 [.int .u8 my,.string ys,.int .i64 yi] rfl rfl hnew (by simp [Value.oneCell']) (by unfold maxLen;omega) (by omega) (by simp;omega) ?_;intro v' w2 ho2 hg2 _ _;have HB2:=hide (((unhide HB).alloc hBs _).grown hg2 (by simp;omega) (fun j e=>(own_block (unhide Ho) j e).1));obtain ⟨g',cap',rfl⟩:=own_succ ho2;have Ho2:=hide ho2;clear ho2 hg2 hnew))
           go_roundw
           case rel=>exact ⟨k+2,_,by go_num,(unhide HL).more (by omega) (by omega) (unhide Hr) (unhide Hmk) (unhide Ho2) (unhide HB2)⟩
           case measure=>simp [intOf];omega
         ·have t1:((my:Int) != 118)=true:=by simpa using (show ¬ (my:Int)=118 by omega)
          have t2:((my:Int) != 100)=true:=by simpa using (show ¬ (my:Int)=100 by omega)
          have Hn:=hide (hq3 (fun h=>hit (.inl h)) (fun h=>hit (.inr h)))
          clear hs41 hb1 hf1 hf2 hn1 hn2 hn3 hwk hmk hit ho h41 hq1 hq3 hmk2 hwk2
          go_wp2
          go_ret3
          exact .inr ⟨_,_,_,_,.inr (.inr (unhide Hn)),rfl,unhide HB⟩
        ·have hkz2:(ps.length:Int)≤(k:Int)+1:=by omega
         have Hn:=hide (hn2 (by omega) ho rfl)
         clear hs41 hb1 hf1 hf2 hn1 hn2 hn3 hwk hmk ho h41
         go_wp2
         go_ret3
         exact .inr ⟨_,_,_,_,.inr (.inr (unhide Hn)),rfl,unhide HB⟩
       ·have e44:((m:Int) != 44)=true:=by simpa using (show ¬ (m:Int)=44 by omega)
        have Hn:=hide (hb1 ho hwk h41 h44)
        clear hs41 hb1 hf1 hf2 hn1 hn2 hn3 hwk hmk ho h41 h44
        go_wp2
        go_ret3
        exact .inr ⟨_,_,_,_,.inr (.inr (unhide Hn)),rfl,unhide HB⟩
    ·have hkz:¬ (k:Int)<(ps.length:Int):=by omega
     have Hn:=hide (hL.rel.end_ (by omega))
     have HB:=hide hL.bel
     clear hL
     go_wp2
     go_ret3
     exact .inr ⟨_,_,_,_,.inr (.inr (unhide Hn)),rfl,unhide HB⟩
  ·have e40:((m0:Int) != 40)=true:=by simpa using (show ¬ (m0:Int)=40 by omega)
   have Hm:Hid ((ps[a]?.getD zeroPc).m≠40):=by rw [← hm0];exact h40
   clear hx hxw hw hm0 h40
   go_enter Tryz.func79,Tryz.ntmps79
   go_wp2
   go_ret3
   exact .inr ⟨_,_,_,_,.inr (.inl (unhide Hm)),rfl,Below.refl _ _⟩
 ·have haz:(ps.length:Int)≤(a:Int):=by omega
  have Hal:Hid (ps.length≤a):=by show ps.length≤a;omega
  clear hx hw hal
  go_enter Tryz.func79,Tryz.ntmps79
  go_wp2
  go_ret3
  exact .inr ⟨_,_,_,_,.inl (unhide Hal),rfl,Below.refl _ _⟩

end Go.Proofs.YtgddkjhknlgbbaaGreatDoor
