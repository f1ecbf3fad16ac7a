import Derived.Test.YtoifcnidhfnapaaGreatDoorB41
import Derived.Deep.CutRange
import Derived.Test.YtoifcnidhfnapaaGreatDoorB30
set_option linter.unusedVariables false
set_option linter.unusedSimpArgs false
set_option maxRecDepth 100000
set_option maxHeartbeats 16000000
namespace Go.Proofs.YtoifcnidhfnapaaGreatDoor
open Go.RowKit Go.Maps
attribute [local go_sem ↓] Go.wp_at_zero Go.wp_at_succ
def yfo (W:World) (RB:Nat) (s:ByteArray) (p:Nat) (e:Ending) (w':World):Prop:=
 (∃ a q tv,znd s p=.ok (a,q)∧e=.returned (.tuple #[.agg #[.string a.nm,.int .i64 a.pl,tv],.nilIface])∧Rdr w' RB s q∧w'.ownsRow W.heap.size 327 2 tv a.ts.length (zgf a.ts)∧KeepX (fun q=>q=RB) W w') ∨
 (∃ q v n m ta tn tc,znd s p=.error q∧e=.returned (.tuple #[.agg #[.string n,.int .i64 m,.slice ta tn tc],v])∧ErrAt W.heap.size w' v 5 q∧KeepX (fun q=>q=RB) W w')
theorem yhm (s:ByteArray) (q0 q:Nat) (h1:q0≤q) (h2:q≤s.size) (w:World):(Instr.sliceAt 9 (.string s) (some (.int .i64 q0)) (some (.int .i64 q)) none).run Tryz.prog w=.ok (.string (s.extract q0 q)) w:=by
 rw [run_sliceAt_string _ _ _ _ _ _ Tryz.underlying9]
 have e1:(0:Int)≤(q0:Int):=by omega
 have e2:(0:Int)≤(q:Int):=by omega
 have e3:(q0:Int)≤(q:Int):=by omega
 have e4:(q:Int)≤(s.size:Int):=by omega
 simp [Instr.slice,run_underlying Tryz.underlying9,Instr.sliceBounds,run_sliceBound,e1,e2,e3,e4,h1,h2]
structure yj3 (W wx:World) (RB:Nat) (s nm:ByteArray) (q q0 AB:Nat):Prop where
 atom:zpp wx (W.heap.size+2) RB W.heap.size AB nm q0 []
 rdr:Rdr wx RB s q
 keep:KeepX (fun q=>q=RB) W wx
 res:wx.heap[W.heap.size+1]? = some (.cells #[.string ⟨#[]⟩,.int .i64 0,.slice none 0 0] 268 (0,0))
 lo:W.heap.size+2≤AB
theorem zir {w:World} {b b':Nat} {e:TypeId} {size:Nat} {v:Value} {n:Nat} {xs:List Value} (h:w.ownsRow b e size v n xs) (hb:b'≤b):w.ownsRow b' e size v n xs:=by
 refine ⟨h.1,?_⟩
 rcases h.2 with h1|⟨g,cap,cur,h1,h2,h3⟩
 ·exact .inl h1
 ·exact .inr ⟨g,cap,cur,h1,Nat.le_trans hb h2,h3⟩
theorem zqu {W w5 w6:World} {RB B:Nat} (h:KeepX (fun q=>q=RB) W w5) (k:zif B RB w5 w6) (hB:W.heap.size≤B):KeepX (fun q=>q=RB) W w6:=
 ⟨k.os.trans h.os,k.tape.trans h.tape,k.output.trans h.output,Nat.le_trans h.size k.size,fun q hq hx=>(k.blk q (Nat.lt_of_lt_of_le hq h.size) (fun e=>e.elim hx (fun e=>by omega))).trans (h.blk q hq hx)⟩
theorem ygv (RB:Nat) (s:ByteArray) (p c:Nat) (hc0:c≠0) (W:World) (h:Rdr W RB s p) :
  Calls Tryz.prog 176 #[.pointer (some ⟨RB,0,none⟩),.int .u8 c] W fun e w'=>∃ v,e=.returned v∧Hid ((∃ q,zj9 s c p=.ok q∧v=.nilIface∧Rdr w' RB s q)∨(∃ q,zj9 s c p=.error q∧ErrAt W.heap.size w' v 5 q))∧KeepX (fun q=>q=RB) W w':=by
 refine (zk4 RB s p c hc0 W h).mono ?_
 rintro e w' (⟨q,h1,rfl,h2,h3⟩|⟨q,v,h1,rfl,h2,h3⟩)
 ·exact ⟨_,rfl,.inl ⟨q,h1,rfl,h2⟩,h3⟩
 ·exact ⟨_,rfl,.inr ⟨q,h1,h2⟩,h3⟩
theorem zu6 (RB:Nat) (s:ByteArray) (p:Nat) (W:World) (h:Rdr W RB s p) :
  Calls Tryz.prog 184 #[.pointer (some ⟨RB,0,none⟩)] W (yfo W RB s p):=by
 have hsz:=h.sz
 have hl:=h.lt
 obtain ⟨W2,hW2⟩:∃ W2,W2=(W.alloc (.cells #[.pointer (some ⟨RB,0,none⟩)] 243)).alloc (.cells #[.string ⟨#[]⟩,.int .i64 0,.slice none 0 0] 268):=⟨_,rfl⟩
 have hb2:Below W.heap.size W W2:=by rw [hW2];exact ((Below.refl _ _).alloc (Nat.le_refl _) _).alloc (by simp) _
 have hs2:W2.heap.size=W.heap.size+2:=by rw [hW2];simp
 have hR2:=h.below hb2
 have hbox:Boxed W2 W.heap.size 243 (.pointer (some ⟨RB,0,none⟩)):=by
  rw [hW2];exact (Boxed.new W 243 _).alloc _
 have hres:W2.heap[W.heap.size+1]? = some (.cells #[.string ⟨#[]⟩,.int .i64 0,.slice none 0 0] 268 (0,0)):=by
  rw [hW2];exact zae _ _ _ (by simp)
 have H:=zac (zgu RB s p W2 hR2)
 have c0:W2.cell? ⟨W.heap.size,0,none⟩=some (.pointer (some ⟨RB,0,none⟩)):=hbox.cell
 have Hb2:=zac hb2
 have Hbox:=zac hbox
 have Hres:=zac hres
 clear h hb2 hR2 hbox hres
 go_enter Tryz.func184,Tryz.ntmps184
 go_wp2_with fail
 rw [← hW2]
 refine (zaa H).mono ?_
 rintro e w1 ⟨rfl,hR1,hK1⟩
 have ha:znd s p=if zfu s (zbc s p)=zbc s p then .error (zbc s p) else
  match zj9 s 40 (zfu s (zbc s p)) with
  | .error r=>.error r
  | .ok p1=>match zhg (zp8 s) s 3 p1 [] with
   | .error r=>.error r
   | .ok (ts,p2)=>match zj9 s 41 p2 with
    | .error r=>.error r
    | .ok p3=>.ok (⟨s.extract (zbc s p) (zfu s (zbc s p)),zbc s p,ts⟩,p3):=rfl
 obtain ⟨q0,hq0⟩:∃ q0,q0=zbc s p:=⟨_,rfl⟩
 rw [← hq0] at ha hR1 ⊢
 clear hq0
 generalize zaq s q0=bq0
 have Ha:=zac ha
 have hbox1:Boxed w1 W.heap.size 243 (.pointer (some ⟨RB,0,none⟩)):=(hK1.blk W.heap.size (by omega) (by omega)).trans (zaa Hbox)
 have hres1:=(hK1.blk (W.heap.size+1) (by omega) (by omega)).trans (zaa Hres)
 have hs1:W.heap.size+2≤w1.heap.size:=by have:=hK1.size;omega
 have HK1:=zac ((KeepX.ofBelow (zaa Hb2)).trans hK1)
 have HR1:=zac hR1
 have Hbox1:=zac hbox1
 have Hres1:=zac hres1
 clear ha hR1 hK1 hbox1 hres1 H hW2 hs2 c0 Hb2 Hbox Hres
 go_wp2
 (try go_frame)
 go_loopw [] (fun wr=>∃ q,Rdr wr RB s q∧zfu s q=zfu s q0∧q0≤q∧KeepX (fun q=>q=RB) w1 wr) (fun wr=>s.size - (match wr.cell? ⟨RB,1,none⟩ with|some (.int _ z)=>z.toNat|_=>0))
 case atStart=>exact ⟨q0,zaa HR1,rfl,Nat.le_refl _,KeepX.refl _ _⟩
 case round =>
  obtain ⟨q,hR,hs,hq,hK⟩:=hrel
  have hh:=zfr RB s q wr hR
  have cb:wr.cell? ⟨W.heap.size,0,none⟩=some (.pointer (some ⟨RB,0,none⟩)):=Boxed.cell (t:=243) ((hK.blk W.heap.size (by omega) (by omega)).trans (zaa Hbox1))
  have hli:=fun w=>ygm (zaq s q) w
  by_cases hb:yfm (zaq s q)=true
  ·have hlt:q<s.size:=zds (fun e=>by rw [e] at hb;cases hb)
   have hgo:zfu s q=zfu s (q+1):=yei hlt hb
   rw [hb] at hli
   generalize zaq s q=bq at *
   have Hli:=zac hli
   have c1:=hR.c1
   have Hh:=zac hh
   have HR:=zac hR
   have HK:=zac hK
   have Hs:=zac (hgo.symm.trans hs)
   have Hcb:=zac cb
   clear hh hR hK hs hgo hli
   go_wp2_with (first
    | (go_at_call 216;refine ((zaa Hli) _).mono ?_;rintro e w4 ⟨rfl,rfl⟩)
    | (go_at_call 182;refine (zaa Hh).mono ?_;rintro e w3 ⟨rfl,hd⟩;have hR3:=(zaa HR).below hd.bel;have d1:=hR3.c1;have f1:=hR3.f1;have cb3:w3.cell? ⟨W.heap.size,0,none⟩=some (.pointer (some ⟨RB,0,none⟩)):=(hd.bel.cell (p:=⟨W.heap.size,0,none⟩) (World.block_lt_of_cell? wr _ (zaa Hcb))).trans (zaa Hcb);have HR3:=zac hR3;have Hd:=zac hd;clear hR3 hd))
   have hset:Rdr (w4.setCell ⟨RB,1,none⟩ (.int .i64 ((q:Int)+1))) RB s (q+1):=zfx (q:=q+1) (zaa HR3) (by omega)
   refine ⟨⟨q+1,hset,zaa Hs,by omega,((zaa HK).trans (KeepX.ofBelow (zaa Hd).bel)).trans (za4 _ _ _ _)⟩,?_⟩
   rw [hset.c1,c1]
   simp
   omega
  ·have hbf:yfm (zaq s q)=false:=by simpa using hb
   have hst:zfu s q0=q:=by rw [← hs];exact zvf hbf
   rw [hbf] at hli
   generalize zaq s q=bq at *
   have Hli:=zac hli
   have Hh:=zac hh
   have HR:=zac hR
   have HK:=zac hK
   have Hst:=zac hst
   have Hcb:=zac cb
   clear hh hR hK hs hst hli
   go_wp2_with (first
    | (go_at_call 216;refine ((zaa Hli) _).mono ?_;rintro e w4 ⟨rfl,rfl⟩)
    | (go_at_call 182;refine (zaa Hh).mono ?_;rintro e w3 ⟨rfl,hd⟩;have hR3:=(zaa HR).below hd.bel;have d0:=hR3.c0;have d1:=hR3.c1;have f1:=hR3.f1;have cb3:w3.cell? ⟨W.heap.size,0,none⟩=some (.pointer (some ⟨RB,0,none⟩)):=(hd.bel.cell (p:=⟨W.heap.size,0,none⟩) (World.block_lt_of_cell? wr _ (zaa Hcb))).trans (zaa Hcb);have HR3:=zac hR3;have Hd:=zac hd;clear hR3 hd))
   have hle:=(zaa HR3).le
   have hsl:∀ w,(Instr.slice 9 (.string s) (some (.int .i64 q0)) (some (.int .i64 q)) none).run Tryz.prog w=.ok (.string (s.extract q0 q)) w:=fun w=>(run_sliceAt_string _ _ _ _ _ _ Tryz.underlying9).symm.trans (yhm s q0 q hq hle w)
   have hRl:RB<w4.heap.size:=(zaa HR3).lt
   have hBl:W.heap.size<w4.heap.size:=World.block_lt_of_cell? w4 _ cb3
   have HF:Hid (yj3 W (w4.alloc (.cells #[.string (s.extract q0 q),.int .i64 q0,.slice none 0 0] 268)).drew RB s (s.extract q0 q) q q0 w4.heap.size):=by
    have hbw:Below w4.heap.size w4 (w4.alloc (.cells #[.string (s.extract q0 q),.int .i64 q0,.slice none 0 0] 268)).drew:=((Below.refl _ _).alloc (Nat.le_refl _) _).trans (zav _ _)
    have hKK:KeepX (fun q=>q=RB) w1 (w4.alloc (.cells #[.string (s.extract q0 q),.int .i64 q0,.slice none 0 0] 268)).drew:=((zaa HK).trans (KeepX.ofBelow (zaa Hd).bel)).trans (KeepX.ofBelow hbw)
    have hs4:w1.heap.size≤w4.heap.size:=((zaa HK).trans (KeepX.ofBelow (zaa Hd).bel)).size
    refine ⟨⟨(hKK.blk W.heap.size (by omega) (by omega)).trans (zaa Hbox1),⟨_,zae _ _ _ rfl,World.ownsRow_nil _ _ _ _⟩,by omega,by omega,by omega⟩,(zaa HR3).below hbw,(zaa HK1).trans hKK,(hKK.blk (W.heap.size+1) (by omega) (by omega)).trans (zaa Hres1),by omega⟩
   go_cut [6] from 24 to 35 (fun s6 wx=>∃ AB,s6=.pointer (some ⟨AB,0,none⟩)∧yj3 W wx RB s (s.extract q0 q) q q0 AB)
   case first =>
    go_region_with fail
    all_goals
     go_wp2_with fail
     go_meet
     case rel=>exact ⟨_,rfl,zaa HF⟩
   case rest =>
    obtain ⟨AB,rfl,hC⟩:=hcut
    obtain ⟨tv,hab,hto⟩:=hC.atom.blk
    have a0:wc.cell? ⟨AB,0,none⟩=some (.string (s.extract q0 q)):=zab hab 0
    have a1:wc.cell? ⟨AB,1,none⟩=some (.int .i64 q0):=zab hab 1
    have a2:wc.cell? ⟨AB,2,none⟩=some tv:=zab hab 2
    have ab:wc.cell? ⟨W.heap.size,0,none⟩=some (.pointer (some ⟨RB,0,none⟩)):=hC.atom.box.cell
    have hst:=zaa Hst
    have ha:=zaa Ha
    rw [hst] at ha
    have Ha':=zac ha
    clear ha Ha hst Hst
    have hRc:=hC.rdr
    have hKc:=hC.keep
    have hrs:=hC.res
    have hlo:=hC.lo
    have hAl:AB<wc.heap.size:=(Array.getElem?_eq_some_iff.1 hab).1
    have hem0:s.extract q q=⟨#[]⟩:=by simp;rfl
    have r0:wc.cell? ⟨W.heap.size+1,0,none⟩=some (.string ⟨#[]⟩):=zab hrs 0
    have hmust:=zac (zk4 RB s q 40 (by omega) wc hRc)
    by_cases hem:q=q0
    ·rw [if_pos hem] at Ha'
     have hnm:s.extract q0 q=⟨#[]⟩:=by rw [hem];simp;rfl
     rw [hnm] at a0 hab
     obtain ⟨ta,tc,rfl,_⟩:=zak hto
     have hts:∃ tn,tn=([]:List (Nat×Int)).length:=⟨_,rfl⟩
     obtain ⟨tn,htn⟩:=hts
     rw [← htn] at hab a2
     have r1:wc.cell? ⟨W.heap.size+1,1,none⟩=some (.int .i64 0):=zab hrs 1
     have r2:wc.cell? ⟨W.heap.size+1,2,none⟩=some (.slice none 0 0):=zab hrs 2
     have hrl:W.heap.size+1<wc.heap.size:=(Array.getElem?_eq_some_iff.1 hrs).1
     have hAR:AB≠W.heap.size+1:=by omega
     have Hf:=zac (zf8 RB s q wc.drew (hRc.keep rfl))
     have hem1:(⟨#[]⟩:ByteArray).toList.isEmpty=true:=by rw [ByteArray.toList_eq];rfl
     have HKc:=zac hKc
     have Hrs:=zac hrs
     have Hab:=zac hab
     clear hC hRc hKc hrs hto hab hem0 hmust htn
     go_wp2_with fail
     go_region_with (first
      | (go_at_call 181;refine (zaa Hf).mono ?_;rintro e w5 ⟨v5,rfl,hE5,hb5⟩;have hb5w:Below wc.heap.size wc w5:=(zav _ _).trans hb5;have hab5:=(hb5w.block AB hAl).trans (zaa Hab);have hrs5:=(hb5w.block (W.heap.size+1) hrl).trans (zaa Hrs);have m0:w5.cell? ⟨AB,0,none⟩=some (.string ⟨#[]⟩):=zab hab5 0;have m1:w5.cell? ⟨AB,1,none⟩=some (.int .i64 q0):=zab hab5 1;have m2:w5.cell? ⟨AB,2,none⟩=some (.slice ta tn tc):=zab hab5 2;have Hin:=zac (zui ⟨#[110,97,109,101]⟩ v5 _ 5 q w5 hE5 hb5.size);have Hb5w:=zac hb5w;have Hab5:=zac hab5;have Hrs5:=zac hrs5;clear hE5 hb5 hb5w hab5 hrs5)
      | (go_at_call 139;refine (zaa Hin).mono ?_;rintro e w7 ⟨v7,rfl,hE7,hb7⟩;have hl5:AB<w5.heap.size∧W.heap.size+1<w5.heap.size:=⟨Nat.lt_of_lt_of_le hAl (zaa Hb5w).size,Nat.lt_of_lt_of_le hrl (zaa Hb5w).size⟩;have hab7:=(hb7.block AB hl5.1).trans (zaa Hab5);have hrs7:=(hb7.block (W.heap.size+1) hl5.2).trans (zaa Hrs5);have p0:w7.cell? ⟨AB,0,none⟩=some (.string ⟨#[]⟩):=zab hab7 0;have p1:w7.cell? ⟨AB,1,none⟩=some (.int .i64 q0):=zab hab7 1;have p2:w7.cell? ⟨AB,2,none⟩=some (.slice ta tn tc):=zab hab7 2;have n0:w7.cell? ⟨W.heap.size+1,0,none⟩=some (.string ⟨#[]⟩):=zab hrs7 0;have n1:w7.cell? ⟨W.heap.size+1,1,none⟩=some (.int .i64 0):=zab hrs7 1;have n2:w7.cell? ⟨W.heap.size+1,2,none⟩=some (.slice none 0 0):=zab hrs7 2;have o0:w7.frozen? ⟨W.heap.size+1,0,none⟩=false:=zad hrs7 0;have o1:w7.frozen? ⟨W.heap.size+1,1,none⟩=false:=zad hrs7 1;have o2:w7.frozen? ⟨W.heap.size+1,2,none⟩=false:=zad hrs7 2;have HE7:=zac hE7;have Hb7:=zac hb7;clear hE7 hb7 hab7 hrs7))
     all_goals
      go_wp2_with fail
      refine bodyPost_ret (v:=.tuple #[.agg #[.string ⟨#[]⟩,.int .i64 q0,.slice ta tn tc],v7]) (by simp [results,Tryz.results184,go_sem,n0,n1,n2,o0,o1,o2]) rfl ?_
      have hKW:KeepX (fun q=>q=RB) W w7:=((zaa HKc).trans (KeepX.ofBelow (zaa Hb5w))).trans (KeepX.ofBelow (zaa Hb7))
      have hKF:=zcd (zcd (zcd hKW (b:=W.heap.size+1) (by omega) 0 (.string ⟨#[]⟩)) (b:=W.heap.size+1) (by omega) 1 (.int .i64 q0)) (b:=W.heap.size+1) (by omega) 2 (.slice ta tn tc)
      have hE7:ErrAt wc.heap.size w7 v7 5 q0:=hem ▸ zaa HE7
      exact .inr ⟨q0,v7,⟨#[]⟩,q0,ta,tn,tc,zaa Ha',rfl,((((hE7.setO hrl _ _).setO hrl _ _).setO hrl _ _)).mono (Nat.le_of_lt (Nat.lt_of_succ_lt hrl)),hKF⟩
    ·have hne:¬ s.extract q0 q=⟨#[]⟩:=fun e=>by
      have:=congrArg ByteArray.size e
      rw [show (⟨#[]⟩:ByteArray).size=0 from rfl,ByteArray.size_extract] at this
      omega
     rw [if_neg hem] at Ha'
     have HabB:=zac hC.atom
     have HKc:=zac hKc
     have Hrs:=zac hrs
     generalize hnm:s.extract q0 q=nm at *
     clear hC hRc hKc hrs hto hab hem0
     have hnb:nm.toList.isEmpty=false:=by
      rw [ByteArray.toList_eq]
      cases hl:nm.data.toList with
      | nil=>exact absurd (by cases nm;simp at hl;subst hl;rfl) hne
      | cons _ _=>rfl
     clear hne
     go_wp2_with fail
     refine (zaa hmust).mono ?_
     rintro e w5 (⟨q1,hm1,rfl,hR5,hK5⟩|⟨q1,v,hm1,rfl,hE5,hK5⟩)
     ·have hab5:=(zaa HabB).keep hK5
      have ab5:w5.cell? ⟨W.heap.size,0,none⟩=some (.pointer (some ⟨RB,0,none⟩)):=hab5.box.cell
      have HL:=zac (ygt RB (W.heap.size+2) s ⟨#[116,101,114,109]⟩ (by decide) 3 (by omega) (by omega) (.pointer (some ⟨W.heap.size,0,none⟩)) (.pointer (some ⟨AB,0,none⟩)) (zp8 s) (fun acc w=>zpp w (W.heap.size+2) RB W.heap.size AB nm q0 acc) (fun w=>∃ acc,zpp w (W.heap.size+2) RB W.heap.size AB nm q0 acc) (fun acc w w' h hk=>h.keep hk) (fun w w' ⟨acc,h⟩ hk=>⟨acc,h.keep hk⟩) (fun acc p w hl3 hR hA hB=>zsv RB W.heap.size AB (W.heap.size+2) s nm p q0 acc (by omega) w hR hA) q1 w5 hR5 hab5 (by have:=hK5.size;omega))
      have HK5:=zac ((zaa HKc).trans hK5)
      have Hrs5:=zac ((hK5.blk (W.heap.size+1) (by omega) (by omega)).trans (zaa Hrs))
      have hs5:wc.heap.size≤w5.heap.size:=hK5.size
      clear hR5 hK5 hab5
      go_wp2_with fail
      refine (zaa HL).mono ?_
      rintro e w6 (⟨ts,q2,hl6,rfl,hR6,hA6,hK6⟩|⟨q2,v,hl6,rfl,hE6,⟨acc,hA6⟩,hK6⟩)
      ·obtain ⟨tv6,hb6,ho6⟩:=hA6.blk
       obtain ⟨ta,tc,rfl,_⟩:=zak ho6
       obtain ⟨tn,htn⟩:∃ tn,tn=ts.length:=⟨_,rfl⟩
       rw [← htn] at hb6 ho6
       have Htn:=zac htn
       clear htn
       have hrs6:=(hK6.blk (W.heap.size+1) (by omega) (by omega)).trans (zaa Hrs5)
       have a0:w6.drew.cell? ⟨AB,0,none⟩=some (.string nm):=zab hb6 0
       have a1:w6.drew.cell? ⟨AB,1,none⟩=some (.int .i64 q0):=zab hb6 1
       have a2:w6.drew.cell? ⟨AB,2,none⟩=some (.slice ta tn tc):=zab hb6 2
       have k0:w6.drew.cell? ⟨W.heap.size+1,0,none⟩=some (.string ⟨#[]⟩):=zab hrs6 0
       have k1:w6.drew.cell? ⟨W.heap.size+1,1,none⟩=some (.int .i64 0):=zab hrs6 1
       have k2:w6.drew.cell? ⟨W.heap.size+1,2,none⟩=some (.slice none 0 0):=zab hrs6 2
       have g0:w6.drew.frozen? ⟨W.heap.size+1,0,none⟩=false:=zad hrs6 0
       have g1:w6.drew.frozen? ⟨W.heap.size+1,1,none⟩=false:=zad hrs6 1
       have g2:w6.drew.frozen? ⟨W.heap.size+1,2,none⟩=false:=zad hrs6 2
       have hAR:AB≠W.heap.size+1:=by omega
       have hbx6:w6.drew.cell? ⟨W.heap.size,0,none⟩=some (.pointer (some ⟨RB,0,none⟩)):=hA6.box.cell
       have hbx6':w6.cell? ⟨W.heap.size,0,none⟩=some (.pointer (some ⟨RB,0,none⟩)):=hA6.box.cell
       have Hm:=zac (ygv RB s q2 41 (by omega) w6.drew (hR6.keep rfl))
       have hbl6:AB<w6.heap.size∧W.heap.size+1<w6.heap.size:=⟨(Array.getElem?_eq_some_iff.1 hb6).1,(Array.getElem?_eq_some_iff.1 hrs6).1⟩
       have Hb6:=zac hb6
       have Hrs6:=zac hrs6
       have Ho6:=zac ho6
       have HK6:=zac (zqu (zaa HK5) hK6 (by omega))
       have HF:=zac (show znd s p=match zj9 s 41 q2 with
        | .error r=>.error r
        | .ok p3=>.ok (⟨nm,q0,ts⟩,p3) by rw [zaa Ha',hm1];simp only [hl6])
       clear hK6 hA6 hb6 hrs6 hl6 hm1 HL ho6 hR6
       go_wp2_with fail
       go_region_with (first
        | (go_at_call 176;refine (zaa Hm).mono ?_;rintro e w7 ⟨v7,rfl,Hs7,hK7⟩;have hb7:=(hK7.blk AB hbl6.1 (by omega)).trans (zaa Hb6);have hrs7:=(hK7.blk (W.heap.size+1) hbl6.2 (by omega)).trans (zaa Hrs6);have m0:w7.cell? ⟨AB,0,none⟩=some (.string nm):=zab hb7 0;have m1:w7.cell? ⟨AB,1,none⟩=some (.int .i64 q0):=zab hb7 1;have m2:w7.cell? ⟨AB,2,none⟩=some (.slice ta tn tc):=zab hb7 2;have n0:w7.cell? ⟨W.heap.size+1,0,none⟩=some (.string ⟨#[]⟩):=zab hrs7 0;have n1:w7.cell? ⟨W.heap.size+1,1,none⟩=some (.int .i64 0):=zab hrs7 1;have n2:w7.cell? ⟨W.heap.size+1,2,none⟩=some (.slice none 0 0):=zab hrs7 2;have o0:w7.frozen? ⟨W.heap.size+1,0,none⟩=false:=zad hrs7 0;have o1:w7.frozen? ⟨W.heap.size+1,1,none⟩=false:=zad hrs7 1;have o2:w7.frozen? ⟨W.heap.size+1,2,none⟩=false:=zad hrs7 2;have HK7:=zac hK7;clear hb7 hrs7 hK7))
       all_goals
        go_wp2_with fail
        refine bodyPost_ret (v:=.tuple #[.agg #[.string nm,.int .i64 q0,.slice ta tn tc],v7]) (by simp [results,Tryz.results184,go_sem,n0,n1,n2,o0,o1,o2]) rfl ?_
        have hKW:KeepX (fun q=>q=RB) W w7:=((zaa HK6).trans (KeepX.ofBelow (zav _ _))).trans (zaa HK7)
        have hKF:=zcd (zcd (zcd hKW (b:=W.heap.size+1) (by omega) 0 (.string nm)) (b:=W.heap.size+1) (by omega) 1 (.int .i64 q0)) (b:=W.heap.size+1) (by omega) 2 (.slice ta tn tc)
        rcases zaa Hs7 with ⟨q3,h3,rfl,hR7⟩|⟨q3,h3,hE7⟩
        ·refine .inl ⟨⟨nm,q0,ts⟩,q3,.slice ta tn tc,by rw [zaa HF,h3],rfl,((hR7.setO (by omega) _ _).setO (by omega) _ _).setO (by omega) _ _,?_,hKF⟩
         have hw7:w7.ownsRow (W.heap.size+2) 327 2 (.slice ta tn tc) tn (zgf ts):=zcl (W:=w6) (zaa Ho6) ((KeepX.ofBelow (zav _ _)).trans (zaa HK7)) (fun g hg=>by omega)
         show World.ownsRow _ _ _ _ _ ts.length _
         rw [← zaa Htn]
         exact zir (zcl (zcl (zcl hw7 (za4 _ _ _ _) (fun g hg=>by omega)) (za4 _ _ _ _) (fun g hg=>by omega)) (za4 _ _ _ _) (fun g hg=>by omega)) (by omega)
        ·have h6s:W.heap.size+1<w6.heap.size:=hbl6.2
         exact .inr ⟨q3,v7,nm,q0,ta,tn,tc,by rw [zaa HF,h3],rfl,((((hE7.setO h6s _ _).setO h6s _ _).setO h6s _ _)).mono (Nat.le_of_lt (Nat.lt_of_succ_lt h6s)),hKF⟩
      ·obtain ⟨ty,b,rfl,hty⟩:=hE6.form
       obtain ⟨tv6,hb6,ho6⟩:=hA6.blk
       obtain ⟨ta,tc,rfl,_⟩:=zak ho6
       obtain ⟨tn,htn⟩:∃ tn,tn=acc.length:=⟨_,rfl⟩
       rw [← htn] at hb6
       have hrs6:=(hK6.blk (W.heap.size+1) (by omega) (by omega)).trans (zaa Hrs5)
       have a0:w6.cell? ⟨AB,0,none⟩=some (.string nm):=zab hb6 0
       have a1:w6.cell? ⟨AB,1,none⟩=some (.int .i64 q0):=zab hb6 1
       have a2:w6.cell? ⟨AB,2,none⟩=some (.slice ta tn tc):=zab hb6 2
       have k0:w6.cell? ⟨W.heap.size+1,0,none⟩=some (.string ⟨#[]⟩):=zab hrs6 0
       have k1:w6.cell? ⟨W.heap.size+1,1,none⟩=some (.int .i64 0):=zab hrs6 1
       have k2:w6.cell? ⟨W.heap.size+1,2,none⟩=some (.slice none 0 0):=zab hrs6 2
       have g0:w6.frozen? ⟨W.heap.size+1,0,none⟩=false:=zad hrs6 0
       have g1:w6.frozen? ⟨W.heap.size+1,1,none⟩=false:=zad hrs6 1
       have g2:w6.frozen? ⟨W.heap.size+1,2,none⟩=false:=zad hrs6 2
       have hAR:AB≠W.heap.size+1:=by omega
       have HE6:=zac hE6
       have HK6:=zac (zqu (zaa HK5) hK6 (by omega))
       have HF:=zac (show znd s p=.error q2 by rw [zaa Ha',hm1];simp only [hl6])
       clear hE6 hK6 hA6 hb6 hrs6 hl6 hm1 HL ho6 htn
       go_wp2_with fail
       refine bodyPost_ret (v:=.tuple #[.agg #[.string nm,.int .i64 q0,.slice ta tn tc],.iface ty (.pointer (some ⟨b,0,none⟩))]) (by simp [results,Tryz.results184,go_sem,k0,k1,k2,g0,g1,g2]) rfl (.inr ⟨_,_,_,_,_,_,_,zaa HF,rfl,?_,?_⟩)
       ·exact ((((zaa HE6).setO (by omega) _ _).setO (by omega) _ _).setO (by omega) _ _).mono (by omega)
       ·exact zcd (zcd (zcd (zaa HK6) (by omega) _ _) (by omega) _ _) (by omega) _ _
     ·have hab5:=(zaa HabB).keep hK5
      ·obtain ⟨ty,b,rfl,hty⟩:=hE5.form
       obtain ⟨tv5,hb5,ho5⟩:=hab5.blk
       obtain ⟨ta,tc,rfl,_⟩:=zak ho5
       obtain ⟨tn,htn⟩:∃ tn,tn=([]:List (Nat×Int)).length:=⟨_,rfl⟩
       rw [← htn] at hb5
       have hrs5:=(hK5.blk (W.heap.size+1) (by omega) (by omega)).trans (zaa Hrs)
       have a0:w5.cell? ⟨AB,0,none⟩=some (.string nm):=zab hb5 0
       have a1:w5.cell? ⟨AB,1,none⟩=some (.int .i64 q0):=zab hb5 1
       have a2:w5.cell? ⟨AB,2,none⟩=some (.slice ta tn tc):=zab hb5 2
       have k0:w5.cell? ⟨W.heap.size+1,0,none⟩=some (.string ⟨#[]⟩):=zab hrs5 0
       have k1:w5.cell? ⟨W.heap.size+1,1,none⟩=some (.int .i64 0):=zab hrs5 1
       have k2:w5.cell? ⟨W.heap.size+1,2,none⟩=some (.slice none 0 0):=zab hrs5 2
       have g0:w5.frozen? ⟨W.heap.size+1,0,none⟩=false:=zad hrs5 0
       have g1:w5.frozen? ⟨W.heap.size+1,1,none⟩=false:=zad hrs5 1
       have g2:w5.frozen? ⟨W.heap.size+1,2,none⟩=false:=zad hrs5 2
       have hAR:AB≠W.heap.size+1:=by omega
       have HE5:=zac hE5
       have HK5:=zac ((zaa HKc).trans hK5)
       have HF:=zac (show znd s p=.error q1 by rw [zaa Ha',hm1])
       clear hE5 hK5 hab5 hb5 hrs5 hm1 ho5 htn
       go_wp2_with fail
       refine bodyPost_ret (v:=.tuple #[.agg #[.string nm,.int .i64 q0,.slice ta tn tc],.iface ty (.pointer (some ⟨b,0,none⟩))]) (by simp [results,Tryz.results184,go_sem,k0,k1,k2,g0,g1,g2]) rfl (.inr ⟨_,_,_,_,_,_,_,zaa HF,rfl,?_,?_⟩)
       ·exact ((((zaa HE5).setO (by omega) _ _).setO (by omega) _ _).setO (by omega) _ _).mono (by omega)
       ·exact zcd (zcd (zcd (zaa HK5) (by omega) _ _) (by omega) _ _) (by omega) _ _
theorem Tryz.info307:(Tryz.prog.info? 307).map (fun i=>(i.zero,i.size,i.bytes))=some (some (.agg #[.int .u8 0,.int .i64 0]),2,16):=by kernel_rfl
def zl7 (xs:List (Nat×Nat)):List Value:=xs.flatMap fun x=>[.int .u8 x.1,.int .i64 x.2]
structure zna (W:World) (B0 RB Bb Bq QB:Nat) (bv:Value) (acc:List (Nat×Nat)):Prop where
 box:Boxed W Bb 243 (.pointer (some ⟨RB,0,none⟩))
 boxq:Boxed W Bq 119 (.pointer (some ⟨QB,0,none⟩))
 blk:∃ hv,W.heap[QB]? = some (.cells #[hv,bv] 188 (0,0))∧W.ownsRow B0 307 2 hv acc.length (zl7 acc)
 lo:Bb≠RB∧Bq≠RB∧B0≤QB∧RB<B0
theorem zna.keep {W w:World} {B0 RB Bb Bq QB:Nat} {bv:Value} {acc:List (Nat×Nat)} (h:zna W B0 RB Bb Bq QB bv acc) (hk:KeepX (fun q=>q=RB) W w):zna w B0 RB Bb Bq QB bv acc:=by
 obtain ⟨hb,hq,⟨tv,h1,h2⟩,h3,h4,h5,h6⟩:=h
 exact ⟨(hk.blk Bb (Array.getElem?_eq_some_iff.1 hb).1 h3).trans hb,(hk.blk Bq (Array.getElem?_eq_some_iff.1 hq).1 h4).trans hq,⟨tv,(hk.blk QB (Array.getElem?_eq_some_iff.1 h1).1 (by omega)).trans h1,zcl h2 hk (fun g hg=>by omega)⟩,h3,h4,h5,h6⟩
theorem zd4 {W:World} {B0 n:Nat} {tv:Value} {xs:List Value} (h:W.ownsRow B0 307 2 tv n xs) {g:Nat} (hg:tv.ownBlock=some g):B0≤g∧∃ cur,W.heap[g]? = some (.cells cur 307 (0,0)):=by
 rcases h.2 with ⟨rfl,_⟩|⟨g',cap,cur,rfl,hb,hgh,_⟩
 ·simp [Value.ownBlock] at hg
 ·simp only [Value.ownBlock] at hg
  injection hg with hg
  subst hg
  exact ⟨hb,cur,hgh⟩
section
attribute [local go_sem ↓] zhb
theorem zsx (RB Bb Bq QB B0:Nat) (s:ByteArray) (bv:Value) (p:Nat) (acc:List (Nat×Nat)) (hacc:acc.length≤100) (W:World) (h:Rdr W RB s p) (hA:zna W B0 RB Bb Bq QB bv acc) (hB0:B0≤W.heap.size) :
  Calls Tryz.prog 179 #[.pointer (some ⟨Bb,0,none⟩),.pointer (some ⟨Bq,0,none⟩)] W (zfq B0 RB s (zja s p) (fun x w=>zna w B0 RB Bb Bq QB bv (acc ++ [x])) (fun w=>∃ acc',zna w B0 RB Bb Bq QB bv acc') W):=by
 have cb:W.cell? ⟨Bb,0,none⟩=some (.pointer (some ⟨RB,0,none⟩)):=hA.box.cell
 have H:=zac (zgu RB s p W h)
 have hsz:=h.sz
 have ht:zja s p=if zun (zaq s (zbc s p)) then .ok ((zaq s (zbc s p),zbc s p),zbc s p+1) else .error (zbc s p):=rfl
 obtain ⟨q,hq⟩:∃ q,q=zbc s p:=⟨_,rfl⟩
 rw [← hq] at H ht
 clear hq h
 obtain ⟨bq,hbq⟩:∃ bq,bq=zaq s q:=⟨_,rfl⟩
 rw [← hbq] at H ht
 have hv:=fun w=>zr6 bq w
 have HA:=zac hA
 clear hA
 by_cases hb:zun bq=true
 ·have hlt:q<s.size:=zds (by rw [← hbq];intro e;rw [e] at hb;cases hb)
  rw [hb] at hv
  rw [if_pos hb] at ht
  have Ht:=zac ht
  have Hv:=zac hv
  clear hbq hb hv ht
  go_enter Tryz.func179,Tryz.ntmps179
  go_wp2_with (first
   | (go_at_call 101;refine ((zaa Hv) _).mono ?_;rintro e w4 ⟨rfl,rfl⟩)
   | (go_at_call 180;refine (zaa H).mono ?_;rintro e w1 ⟨rfl,hR1,hK1⟩;have d1:=hR1.c1;have f1:=hR1.f1;have hA1:=(zaa HA).keep hK1;have cb1:w1.cell? ⟨Bb,0,none⟩=some (.pointer (some ⟨RB,0,none⟩)):=hA1.box.cell;have HR1:=zac hR1;have HK1:=zac hK1;have HA1:=zac hA1;clear hR1 hK1 hA1))
  have hR5:Rdr (w4.setCell ⟨RB,1,none⟩ (.int .i64 ((q:Int)+1))) RB s (q+1):=zfx (q:=q+1) (zaa HR1) (by omega)
  have hK5:KeepX (fun q=>q=RB) W (w4.setCell ⟨RB,1,none⟩ (.int .i64 ((q:Int)+1))):=(zaa HK1).trans (za4 _ _ _ _)
  have hA5:zna (w4.setCell ⟨RB,1,none⟩ (.int .i64 ((q:Int)+1))) B0 RB Bb Bq QB bv acc:=(zaa HA1).keep (za4 _ _ _ _)
  generalize w4.setCell ⟨RB,1,none⟩ (.int .i64 ((q:Int)+1))=w5 at *
  obtain ⟨hvv,hqb,hown⟩:=hA5.blk
  have hown':w5.drew.ownsRow B0 307 2 hvv acc.length (zl7 acc):=zcl hown (KeepX.ofBelow (X:=fun _=>False) (zav _ _)) (fun _ _ h=>h)
  obtain ⟨g',cap',w6,hA6,hown6,hg6⟩:=ycb (w2:=w5.drew) #[.int .u8 bq,.int .i64 q] 185 307 Tryz.underlying185 Tryz.info307 rfl (by decide) rfl (by simp [Value.oneCell']) hown' (Nat.le_trans hB0 hK5.size) (by omega) (by omega)
  have q1:w5.drew.cell? ⟨Bq,0,none⟩=some (.pointer (some ⟨QB,0,none⟩)):=hA5.boxq.cell
  have q0:w5.drew.cell? ⟨QB,0,none⟩=some hvv:=zab hqb 0
  have hbA:Below w5.heap.size w5 (w5.drew.alloc (.cells #[.int .u8 bq,.int .i64 q] 307)):=(zav _ _).alloc (Nat.le_refl _) _
  have hql:QB<w5.heap.size:=(Array.getElem?_eq_some_iff.1 hqb).1
  have hbql:Bq<w5.heap.size:=hA5.boxq.lt
  have hbbl:Bb<w5.heap.size:=hA5.box.lt
  have hA6':(zjy #[185,185] 185 #[hvv,.slice (some ⟨w5.heap.size,0,none⟩) 1 1]).run Tryz.prog (w5.alloc (.cells #[.int .u8 bq,.int .i64 q] 307)).drew=.ok (.slice (some ⟨g',0,none⟩) (acc.length+1) cap') w6:=hA6
  have q1A:(w5.alloc (.cells #[.int .u8 bq,.int .i64 q] 307)).drew.cell? ⟨Bq,0,none⟩=some (.pointer (some ⟨QB,0,none⟩)):=(hbA.cell (p:=⟨Bq,0,none⟩) hbql).trans hA5.boxq.cell
  have q0A:(w5.alloc (.cells #[.int .u8 bq,.int .i64 q] 307)).drew.cell? ⟨QB,0,none⟩=some hvv:=(hbA.cell (p:=⟨QB,0,none⟩) hql).trans (zab hqb 0)
  have hnq:hvv.ownBlock≠some QB:=fun e=>by
   obtain ⟨_,cur,hc⟩:=zd4 hown e
   rw [hqb] at hc;simp at hc
  have hnb:hvv.ownBlock≠some Bb:=fun e=>by
   obtain ⟨_,cur,hc⟩:=zd4 hown e
   rw [show w5.heap[Bb]? = _ from hA5.box] at hc;simp at hc
  have hnB:hvv.ownBlock≠some Bq:=fun e=>by
   obtain ⟨_,cur,hc⟩:=zd4 hown e
   rw [show w5.heap[Bq]? = _ from hA5.boxq] at hc;simp at hc
  have hK6:KeepX (fun q=>hvv.ownBlock=some q) w5 w6:=(KeepX.ofBelow hbA).trans ⟨hg6.os,hg6.tape,hg6.output,hg6.size,fun q hq hx=>hg6.block q hq (fun e=>hx e.symm)⟩
  have hqb6:=(hK6.blk QB hql hnq).trans hqb
  have hbq6:Boxed w6 Bq 119 (.pointer (some ⟨QB,0,none⟩)):=(hK6.blk Bq hbql hnB).trans hA5.boxq
  have hbb6:Boxed w6 Bb 243 (.pointer (some ⟨RB,0,none⟩)):=(hK6.blk Bb hbbl hnb).trans hA5.box
  have q1B:w6.cell? ⟨Bq,0,none⟩=some (.pointer (some ⟨QB,0,none⟩)):=hbq6.cell
  have q0B:w6.cell? ⟨QB,0,none⟩=some hvv:=zab hqb6 0
  have fB:w6.frozen? ⟨QB,0,none⟩=false:=zad hqb6 0
  have hgQ:g'≠QB:=fun e=>by
   obtain ⟨_,cur,hc⟩:=zd4 hown6 (g:=g') rfl
   rw [e,hqb6] at hc;simp at hc
  have hnqq:Bb≠QB∧Bq≠QB:=⟨fun e=>by have h1:=hqb;rw [← e,show w5.heap[Bb]? = _ from hA5.box] at h1;simp at h1,fun e=>by have h1:=hqb;rw [← e,show w5.heap[Bq]? = _ from hA5.boxq] at h1;simp at h1⟩
  obtain ⟨hl1,hl2,hl3,hl4⟩:=hA5.lo
  have hFin:zfq B0 RB s (zja s p) (fun x w=>zna w B0 RB Bb Bq QB bv (acc ++ [x])) (fun w=>∃ acc',zna w B0 RB Bb Bq QB bv acc') W (.returned .nilIface) (w6.setCell ⟨QB,0,none⟩ (.slice (some ⟨g',0,none⟩) (acc.length+1) cap')):=by
   have hK7:KeepX (fun q=>hvv.ownBlock=some q∨q=QB) w5 (w6.setCell ⟨QB,0,none⟩ (.slice (some ⟨g',0,none⟩) (acc.length+1) cap')):=(hK6.mono fun q _ e=>.inl e).trans ((za4 w6 QB 0 _).mono fun q _ e=>.inr e)
   have hX:∀ q,(hvv.ownBlock=some q∨q=QB)→B0≤q:=fun q hq=>by
    rcases hq with hq|hq
    ·exact (zd4 hown hq).1
    ·omega
   refine .inl ⟨(bq,q),q+1,zaa Ht,rfl,hR5.keep (hK7.blk RB hR5.lt (fun e=>by have:=hX RB e;omega)),?_,(hK5.mono fun q _ e=>.inl e).trans (hK7.mono fun q _ e=>.inr (hX q e))⟩
   refine ⟨(hK7.blk Bb hbbl (fun e=>e.elim hnb hnqq.1)).trans hA5.box,(hK7.blk Bq hbql (fun e=>e.elim hnB hnqq.2)).trans hA5.boxq,⟨.slice (some ⟨g',0,none⟩) (acc.length+1) cap',?_,?_⟩,hl1,hl2,hl3,hl4⟩
   ·simp only [World.setCell]
    rw [Array.getElem?_modify,if_pos rfl,hqb6]
    rfl
   ·have e:zl7 (acc ++ [(bq,q)])=zl7 acc ++ [.int .u8 bq,.int .i64 q]:=by simp [zl7]
    rw [e,List.length_append]
    refine zcc hown6 (za4 w6 QB 0 _) (fun g hg=>?_)
    simp only [Value.ownBlock] at hg
    injection hg with hg
    omega
  have HFin:=zac hFin
  clear hA6
  clear hFin hR5 hK5 hA5 hqb hown hown' hown6 hg6 hbA hK6 hqb6 hbq6 hbb6 hnq hnb hnB
  go_wp2_with fail
  go_region_with fail
  all_goals
   go_wp2
   go_ret
   exact zaa HFin
 ·have hbf:zun bq=false:=by simpa using hb
  rw [hbf] at hv
  rw [if_neg (by simp [hbf])] at ht
  have Ht:=zac ht
  have Hv:=zac hv
  clear hbq hb hv ht
  go_enter Tryz.func179,Tryz.ntmps179
  go_wp2_with (first
   | (go_at_call 101;refine ((zaa Hv) _).mono ?_;rintro e w4 ⟨rfl,rfl⟩)
   | (go_at_call 180;refine (zaa H).mono ?_;rintro e w1 ⟨rfl,hR1,hK1⟩;have hA1:=(zaa HA).keep hK1;have cb1:w1.cell? ⟨Bb,0,none⟩=some (.pointer (some ⟨RB,0,none⟩)):=hA1.box.cell;have HR1:=zac hR1;have HK1:=zac hK1;have HA1:=zac hA1;clear hR1 hK1 hA1)
   | (go_at_call 181;refine (zf8 RB s q _ (zaa HR1)).mono ?_;rintro e w6 ⟨v,rfl,hE6,hb6⟩;have HE6:=zac hE6;have Hb6:=zac hb6;clear hE6 hb6))
  go_ret
  exact .inr ⟨q,v,zaa Ht,rfl,(zaa HE6).mono (Nat.le_trans hB0 (zaa HK1).size),⟨acc,(zaa HA1).keep (KeepX.ofBelow (zaa Hb6))⟩,((zaa HK1).trans (KeepX.ofBelow (zaa Hb6))).mono fun q _ e=>.inl e⟩
end
end Go.Proofs.YtoifcnidhfnapaaGreatDoor
