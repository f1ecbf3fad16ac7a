import Derived.Test.YtoifcnidhfnapaaGreatDoorB20
import Derived.Test.YtoifcnidhfnapaaGreatDoorB17
import Derived.Test.YtoifcnidhfnapaaGreatDoorB13
set_option linter.unusedVariables false
set_option linter.unusedSimpArgs false
set_option maxRecDepth 100000
set_option maxHeartbeats 16000000
namespace Go.Proofs.YtoifcnidhfnapaaGreatDoor
open Go.RowKit Go.Maps Go.Sort Go.Shelf
theorem ybd (g:Nat) (W:World) (hg:W.heap[g]? = some (.cells #[.slice none 0 0] 141 (0,0))) :
    Calls Tryz.prog 155 #[.slice (some ⟨g,0,none⟩) 1 1] W fun e w'=>e=.returned (.agg #[.slice none 0 0,.int .i64 0])∧Below W.heap.size W w':=by
  obtain ⟨W3,hW3⟩:∃ W3,W3=(W.alloc (.cells #[.slice none 0 0,.int .i64 0] 190)).alloc (.cells #[.slice none 0 0,.int .i64 0] 190):=⟨_,rfl⟩
  have hb3:Below W.heap.size W W3:=by rw [hW3];exact ((Below.refl _ _).alloc (Nat.le_refl _) _).alloc (by simp) _
  have hsz:W3.heap.size=W.heap.size+2:=by rw [hW3];simp
  have hB1:W3.heap[W.heap.size]? = some (.cells #[.slice none 0 0,.int .i64 0] 190 (0,0)):=by
    rw [hW3]
    exact (Below.heap_alloc _ _ _ (by simp)).trans (zae _ _ _ rfl)
  have hB2:W3.heap[W.heap.size+1]? = some (.cells #[.slice none 0 0,.int .i64 0] 190 (0,0)):=by
    rw [hW3]
    exact zae _ _ _ (by simp)
  have hgl:g<W.heap.size:=(Array.getElem?_eq_some_iff.1 hg).1
  have d0:W3.cell? ⟨g,0,none⟩=some (.slice none 0 0):=zab ((hb3.block g hgl).trans hg) 0
  have Hb3:=zac hb3
  have Hsz:=zac hsz
  have HB1:=zac hB1
  have HB2:=zac hB2
  clear hb3 hsz hB1 hB2 hg
  go_enter Tryz.func155,Tryz.ntmps155
  go_wp2
  rw [← hW3]
  clear hW3
  try go_wp2
  go_loopw [8] (fun i wr=>∃ k:Nat,k≤1∧i=.int .i64 k∧wr=W3) (fun i _=>1 - (intOf i).toNat)
  case atStart=>exact ⟨0,by omega,rfl,rfl⟩
  case round =>
    obtain ⟨k,hk,rfl,hwr⟩:=hrel
    replace hwr:=hwr.symm
    subst hwr
    by_cases hlt:k<1
    · have hk0:k=0:=by omega
      subst hk0
      go_wp2_with (first
        | (go_at_call 199;refine (zzc (W.heap.size+1) (.slice none 0 0) 0 W3 (zaa HB2)).mono ?_;rintro e w6 ⟨rfl,hw6⟩;replace hw6:=hw6.symm;subst hw6))
      exact ⟨⟨1,by omega,rfl,by simp⟩,by simp [intOf]⟩
    · have hke:k=1:=by omega
      subst hke
      have e0:W3.cell? ⟨W.heap.size+1,0,none⟩=some (.slice none 0 0):=zab (zaa HB2) 0
      have e1:W3.cell? ⟨W.heap.size+1,1,none⟩=some (.int .i64 0):=zab (zaa HB2) 1
      have g0:W3.cell? ⟨W.heap.size,0,none⟩=some (.slice none 0 0):=zab (zaa HB1) 0
      have g1:W3.cell? ⟨W.heap.size,1,none⟩=some (.int .i64 0):=zab (zaa HB1) 1
      have f0:W3.frozen? ⟨W.heap.size,0,none⟩=false:=zad (zaa HB1) 0
      have f1:W3.frozen? ⟨W.heap.size,1,none⟩=false:=zad (zaa HB1) 1
      go_wp2
      refine bodyPost_ret (v:=.agg #[.slice none 0 0,.int .i64 0]) (by simp [results,Tryz.results155,go_sem,g0,g1,f0,f1]) rfl ⟨rfl,?_⟩
      exact zbu (zbu (zaa Hb3) (Nat.le_refl _) _ _) (Nat.le_refl _) _ _
theorem yai (XB:Nat) (x0 x1 x2 rv bv:Value) (es:List zaj) (W:World) (hX:W.heap[XB]? = some (.cells #[x0,x1,x2,rv,bv] 144 (0,0))) (h:zcg W bv es) (hn:es.length≤1000000000000) :
    Calls Tryz.prog 214 #[.pointer (some ⟨XB,0,none⟩)] W fun e w'=>∃ sv',e=.returned (.agg #[sv',.int .i64 0])∧zay w' sv' (zeh [es])∧Below W.heap.size W w'∧∀ g,sv'.ownBlock=some g→W.heap.size<g:=by
  rcases h with ⟨rfl,rfl⟩|⟨b,o,cp,rfl,hr⟩
  · obtain ⟨W1,hW1⟩:∃ W1,W1=(W.alloc (.cells #[.slice none 0 0,.int .i64 0] 190)).alloc (.cells #[.slice none 0 0] 141):=⟨_,rfl⟩
    have hb1:Below W.heap.size W W1:=by rw [hW1];exact ((Below.refl _ _).alloc (Nat.le_refl _) _).alloc (by simp) _
    have hsz:W1.heap.size=W.heap.size+2:=by rw [hW1];simp
    have hB:W1.heap[W.heap.size]? = some (.cells #[.slice none 0 0,.int .i64 0] 190 (0,0)):=by rw [hW1];exact (Below.heap_alloc _ _ _ (by simp)).trans (zae _ _ _ rfl)
    have hB9:W1.heap[W.heap.size+1]? = some (.cells #[.slice none 0 0] 141 (0,0)):=by rw [hW1];exact zae _ _ _ (by simp)
    have hXl:XB<W.heap.size:=(Array.getElem?_eq_some_iff.1 hX).1
    have cW:W.cell? ⟨XB,4,none⟩=some (.slice none 0 0):=zab hX 4
    have hrows:=ybd (W.heap.size+1) W1 hB9
    have Hb1:=zac hb1
    have Hsz:=zac hsz
    have HB:=zac hB
    have Hrows:=zac hrows
    clear hb1 hsz hB hX hB9 hrows
    go_enter Tryz.func214,Tryz.ntmps214
    go_wp2_with (first
      | (go_at_call 155
         rw [← hW1]
         refine (zaa Hrows).mono ?_
         rintro e w2 ⟨rfl,hb2⟩
         have hB2:=(hb2.block W.heap.size (by rw [zaa Hsz];omega)).trans (zaa HB)
         have g0:w2.cell? ⟨W.heap.size,0,none⟩=some (.slice none 0 0):=zab hB2 0
         have g1:w2.cell? ⟨W.heap.size,1,none⟩=some (.int .i64 0):=zab hB2 1
         have f0:w2.frozen? ⟨W.heap.size,0,none⟩=false:=zad hB2 0
         have f1:w2.frozen? ⟨W.heap.size,1,none⟩=false:=zad hB2 1
         have Hb2:=zac ((zaa Hb1).trans (hb2.mono (zaa Hb1).size))
         clear hb2 hB2))
    refine bodyPost_ret (v:=.agg #[.slice none 0 0,.int .i64 0]) (by simp [results,Tryz.results214,go_sem,g0,g1,f0,f1]) rfl ⟨.slice none 0 0,by simp,?_,zbu (zbu (zaa Hb2) (Nat.le_refl _) _ _) (Nat.le_refl _) _ _,fun g hg=>by cases hg⟩
    exact ⟨none,0,rfl,fun i hi=>by simp [zeh] at hi⟩
  · exact ycd XB x0 x1 x2 rv b o cp es W hX hr hn
def zjm (w:World) (v:Value) (xs:List Nat):Prop:=
 ∃ a cap,v=.slice a xs.length cap∧∀ i,i<xs.length→∃ b o,a=some ⟨b,o,none⟩∧w.cell? ⟨b,o+i,none⟩=some (.pointer (some ⟨xs[i]?.getD 0,0,none⟩))
structure zps (w:World) (XB:Nat) (rs:List (List zaj)) (es:List zaj):Prop where
 blk:∃ x0 x1 x2 rv bv,w.heap[XB]? = some (.cells #[x0,x1,x2,rv,bv] 144 (0,0))∧zay w rv rs∧zcg w bv es
 full:∀ r∈rs,r≠[]
 len:∀ r∈rs,r.length≤1000000000000
 cnt:rs.length≤100000000
 elen:es.length≤1000000000000
theorem zps.below {w w':World} {XB:Nat} {rs:List (List zaj)} {es:List zaj} (h:zps w XB rs es) (hb:Below w.heap.size w w'):zps w' XB rs es:=by
 obtain ⟨⟨x0,x1,x2,rv,bv,h1,h2,h3⟩,hf,hl,hc,he⟩:=h
 exact ⟨⟨x0,x1,x2,rv,bv,(hb.block XB (Array.getElem?_eq_some_iff.1 h1).1).trans h1,h2.below hb,h3.below hb⟩,hf,hl,hc,he⟩
def zbe (ix:Nat→List (List zaj)×List zaj) (n atom:Nat):Nat→Src:=fun i =>
 if i<n then ⟨if i<atom then zh9 (ix i).1 (ix i).2 else if i=atom then zeh [(ix i).2] else (ix i).1,0⟩ else ⟨[],0⟩
def ya5 (f:Nat→Src) (k:Nat):Nat→Src:=fun i=>if i<k then f i else ⟨[],0⟩
theorem yd6 (f:Nat→Src) (k:Nat):ya5 f (k+1)=zfl (ya5 f k) k (f k):=by
 funext i
 unfold ya5 zfl
 by_cases h:i=k
 ·subst h;simp
 ·rw [if_neg h]
  dsimp only
  by_cases h2:i<k
  ·rw [if_pos h2,if_pos (by omega)]
  ·rw [if_neg h2,if_neg (by omega)]
theorem yas {rs:List (List zaj)} {es:List zaj} (hf:∀ r∈rs,r≠[]):∀ r∈zh9 rs es,r≠[]:=by
 intro r hr
 unfold zh9 at hr
 split at hr
 ·exact hf r hr
 ·rcases List.mem_append.1 hr with hr|hr
  ·exact hf r hr
  ·simp at hr;subst hr;assumption
theorem yaa (rs:List (List zaj)):∀ r∈zeh rs,r≠[]:=by
 intro r hr e
 unfold zeh at hr
 rw [List.mem_filter] at hr
 rw [e] at hr
 simp at hr
theorem zzu (VB:Nat) (v0 iv v2 v3:Value) (xs:List Nat) (ix:Nat→List (List zaj)×List zaj) (atom:Nat) (W:World) (hV:W.heap[VB]? = some (.cells #[v0,iv,v2,v3] 89 (0,0))) (hI:zjm W iv xs) (hn4:xs.length≤4) (hX:∀ i,i<xs.length→zps W (xs[i]?.getD 0) (ix i).1 (ix i).2) (ha:atom<100) :
  Calls Tryz.prog 168 #[.pointer (some ⟨VB,0,none⟩),.int .i64 atom] W fun e w'=>∃ sv,e=.returned (.agg (zag sv (fun _=>0)))∧(∀ i,i<4→zay w' (sv i).val (zbe ix xs.length atom i).rs)∧Below W.heap.size W w':=by
 obtain ⟨ia,icap,rfl,hx⟩:=hI
 obtain ⟨W2,hW2⟩:∃ W2,W2=(W.alloc (.cells (zag (fun _=>⟨none,0,0⟩) (fun _=>0)) 192)).alloc (.cells (zag (fun _=>⟨none,0,0⟩) (fun _=>0)) 192):=⟨_,rfl⟩
 have hb2:Below W.heap.size W W2:=by rw [hW2];exact ((Below.refl _ _).alloc (Nat.le_refl _) _).alloc (by simp) _
 have hsz:W2.heap.size=W.heap.size+2:=by rw [hW2];simp
 have hB0:W2.heap[W.heap.size]? = some (.cells (zag (fun _=>⟨none,0,0⟩) (fun _=>0)) 192 (0,0)):=by
  rw [hW2]
  exact (Below.heap_alloc _ _ _ (by simp)).trans (zae _ _ _ rfl)
 have hB1:W2.heap[W.heap.size+1]? = some (.cells (zag (fun _=>⟨none,0,0⟩) (fun _=>0)) 192 (0,0)):=by
  rw [hW2]
  exact zae _ _ _ (by simp)
 have hVl:VB<W.heap.size:=(Array.getElem?_eq_some_iff.1 hV).1
 have cV:W2.cell? ⟨VB,1,none⟩=some (.slice ia xs.length icap):=zab ((hb2.block VB hVl).trans hV) 1
 have hS0:zd1 W2 (W.heap.size+1) (fun _=>⟨none,0,0⟩) (ya5 (zbe ix xs.length atom) 0):=
  ⟨hB1,fun i hi=>⟨none,0,rfl,fun j hj=>by simp [ya5] at hj⟩,fun i hi h=>absurd rfl h,fun i hi r hr=>by simp [ya5] at hr⟩
 have cW:W.cell? ⟨VB,1,none⟩=some (.slice ia xs.length icap):=zab hV 1
 have Hb2:=zac hb2
 have Hsz:=zac hsz
 have HB0:=zac hB0
 have HS0:=zac hS0
 have Hx:=zac hx
 have HX:=zac hX
 clear hb2 hsz hB0 hB1 hS0 hx hX hV
 go_enter Tryz.func168,Tryz.ntmps168
 unfold zag at hW2
 go_wp2
 rw [← hW2]
 clear hW2
 try go_wp2
 go_loopw [13] (fun i wr=>∃ (k:Nat) (svk:Nat→SV),k≤xs.length∧i=.int .i64 k∧zd1 wr (W.heap.size+1) svk (ya5 (zbe ix xs.length atom) k)∧zrl (W.heap.size+1) W2 wr) (fun i _=>xs.length - (intOf i).toNat)
 case atStart=>exact ⟨0,_,Nat.zero_le _,rfl,zaa HS0,zrl.refl _ _⟩
 case round =>
  obtain ⟨k,svk,hk,rfl,hS,hK⟩:=hrel
  have h2:=zaa Hsz
  have hsK:=hK.size
  by_cases hlt:k<xs.length
  ·have hkx:(k:Int)<(xs.length:Int):=by omega
   have hk4:(k:Int)<4:=by omega
   have hk4n:k<4:=by omega
   obtain ⟨pb,po,rfl,d0⟩:=(zaa Hx) k hlt
   have hpl:pb<W.heap.size:=World.block_lt_of_cell? W _ d0
   have hwr:Below W.heap.size W wr:=hK.toBelow (zaa Hb2) (by omega)
   have d0':=(hwr.cell (p:=⟨pb,po+k,none⟩) hpl).trans d0
   have hIx:=((zaa HX) k hlt).below hwr
   obtain ⟨XB,hXB⟩:∃ XB,XB=xs[k]?.getD 0:=⟨_,rfl⟩
   rw [← hXB] at d0' hIx
   obtain ⟨⟨x0,x1,x2,rv,bv,g1,g2,g3⟩,hf,hl,hc,he⟩:=hIx
   have hsucc:=yd6 (zbe ix xs.length atom) k
   obtain ⟨e0,e1⟩:=zaf hS.blk k hk4n
   have ha1:(atom:Int)<100:=by omega
   have Hsucc:=zac hsucc
   have HS:=zac hS
   have HK:=zac hK
   clear d0 hsucc hwr hXB hS hK
   have key:∀ (fn:Nat) (t:Src) (w5:World) (a5:Option Addr) (cap5:Nat),t=zbe ix xs.length atom k→zay w5 (.slice a5 t.rs.length cap5) t.rs→Below wr.heap.size wr w5→(∀ g,(Value.slice a5 t.rs.length cap5).ownBlock=some g→wr.heap.size<g) →
     zd1 ((w5.setCell ⟨W.heap.size+1,k*2,none⟩ (.slice a5 t.rs.length cap5)).setCell ⟨W.heap.size+1,k*2+1,none⟩ (.int .i64 0)) (W.heap.size+1) (zfl svk k ⟨a5,t.rs.length,cap5⟩) (ya5 (zbe ix xs.length atom) (k+1))∧zrl (W.heap.size+1) W2 ((w5.setCell ⟨W.heap.size+1,k*2,none⟩ (.slice a5 t.rs.length cap5)).setCell ⟨W.heap.size+1,k*2+1,none⟩ (.int .i64 0)):=by
    intro _ t w5 a5 cap5 ht hr hb ho
    have hc0:t.c=0:=by rw [ht];unfold zbe;split <;> rfl
    have hft:∀ r∈t.rs,r≠[]:=by
     rw [ht]
     unfold zbe
     rw [if_pos hlt]
     dsimp only
     split
     ·exact yas hf
     ·split
      ·exact yaa _
      ·exact hf
    have hput:=((zaa HS).below hb).put hk4n ⟨a5,t.rs.length,cap5⟩ t hr (fun _=>⟨fun e=>by have:=ho _ e;omega,fun e=>by have:=ho _ e;omega⟩) hft
    rw [hc0] at hput
    refine ⟨?_,(((zaa HK).below hb).set _ _).set _ _⟩
    rw [zaa Hsucc,← ht]
    exact hput
   have Hkey:=zac key
   clear key
   have hsrc:∀ w5,Below wr.heap.size wr w5→w5.cell? ⟨W.heap.size+1,k*2,none⟩=some (.slice (svk k).a (svk k).n (svk k).cap)∧w5.cell? ⟨W.heap.size+1,k*2+1,none⟩=some (.int .i64 (((ya5 (zbe ix xs.length atom) k) k).c:Int))∧w5.frozen? ⟨W.heap.size+1,k*2,none⟩=false∧w5.frozen? ⟨W.heap.size+1,k*2+1,none⟩=false:=fun w5 hb=>by
    have hb5:=((zaa HS).below hb).blk
    exact ⟨(zaf hb5 k hk4n).1,(zaf hb5 k hk4n).2,zad hb5 _,zad hb5 _⟩
   have Hsrc:=zac hsrc
   clear hsrc e0 e1
   rcases Nat.lt_trichotomy k atom with hat|hat|hat
   ·have hax:(k:Int)<(atom:Int):=by omega
    have hcall:=ygj XB x0 x1 x2 rv bv (ix k).1 (ix k).2 wr g1 g2 g3 hf hl hc he
    have Hcall:=zac hcall
    clear hcall g1 g2 g3 hf hl hc he
    go_wp2_with fail
    refine (zaa Hcall).mono ?_
    rintro e w5 ⟨sv5,rfl,hr5,hb5,ho5⟩
    dsimp only
    obtain ⟨y0,y1,z0,z1⟩:=(zaa Hsrc) w5 hb5
    have hr6:=hr5
    obtain ⟨a5,cap5,rfl,_⟩:=hr5
    have Hfin:=zac ((zaa Hkey) 0 ⟨zh9 (ix k).1 (ix k).2,0⟩ w5 a5 cap5 (by unfold zbe;rw [if_pos hlt];rw [if_pos hat]) hr6 hb5 ho5)
    clear hr6 hb5 ho5
    go_wp2
    exact ⟨⟨k+1,_,by omega,by simp,(zaa Hfin).1,(zaa Hfin).2⟩,by simp [intOf];omega⟩
   ·subst hat
    have hcall:=yai XB x0 x1 x2 rv bv (ix k).2 wr g1 g3 he
    have Hcall:=zac hcall
    clear hcall g1 g2 g3 hf hl hc he
    go_wp2_with fail
    refine (zaa Hcall).mono ?_
    rintro e w5 ⟨sv5,rfl,hr5,hb5,ho5⟩
    dsimp only
    obtain ⟨y0,y1,z0,z1⟩:=(zaa Hsrc) w5 hb5
    have hr6:=hr5
    obtain ⟨a5,cap5,rfl,_⟩:=hr5
    have Hfin:=zac ((zaa Hkey) 0 ⟨zeh [(ix k).2],0⟩ w5 a5 cap5 (by unfold zbe;rw [if_pos hlt];rw [if_neg (by omega),if_pos rfl]) hr6 hb5 ho5)
    clear hr6 hb5 ho5
    go_wp2
    exact ⟨⟨k+1,_,by omega,by simp,(zaa Hfin).1,(zaa Hfin).2⟩,by simp [intOf];omega⟩
   ·have hax:¬ (k:Int)<(atom:Int):=by omega
    have hay:¬ (k:Int)=(atom:Int):=by omega
    have hcall:=yi7 XB x0 x1 x2 rv bv (ix k).1 wr g1 g2 hf hl hc
    have Hcall:=zac hcall
    clear hcall g1 g2 g3 hf hl hc he
    go_wp2_with fail
    refine (zaa Hcall).mono ?_
    rintro e w5 ⟨sv5,rfl,hr5,hb5,ho5⟩
    dsimp only
    obtain ⟨y0,y1,z0,z1⟩:=(zaa Hsrc) w5 hb5
    have hr6:=hr5
    obtain ⟨a5,cap5,rfl,_⟩:=hr5
    have Hfin:=zac ((zaa Hkey) 0 ⟨(ix k).1,0⟩ w5 a5 cap5 (by unfold zbe;rw [if_pos hlt];rw [if_neg (by omega),if_neg (by omega)]) hr6 hb5 ho5)
    clear hr6 hb5 ho5
    go_wp2
    exact ⟨⟨k+1,_,by omega,by simp,(zaa Hfin).1,(zaa Hfin).2⟩,by simp [intOf];omega⟩
  ·have hke:k=xs.length:=by omega
   subst hke
   have hB0r:wr.heap[W.heap.size]? = _:=(hK.blk W.heap.size (by omega) (by omega)).trans (zaa HB0)
   have hcz:∀ i,((ya5 (zbe ix xs.length atom) xs.length i).c:Int)=0:=fun i=>by
    unfold ya5 zbe
    split <;> rfl
   have hrs:∀ i,(ya5 (zbe ix xs.length atom) xs.length i).rs=(zbe ix xs.length atom i).rs:=fun i=>by
    unfold ya5
    split
    ·rfl
    ·unfold zbe;rw [if_neg (by assumption)]
   have p0:wr.cell? ⟨W.heap.size+1,0,none⟩=some _:=(zaf hS.blk 0 (by omega)).1
   have p1:wr.cell? ⟨W.heap.size+1,1,none⟩=some _:=(zaf hS.blk 0 (by omega)).2
   have p2:wr.cell? ⟨W.heap.size+1,2,none⟩=some _:=(zaf hS.blk 1 (by omega)).1
   have p3:wr.cell? ⟨W.heap.size+1,3,none⟩=some _:=(zaf hS.blk 1 (by omega)).2
   have p4:wr.cell? ⟨W.heap.size+1,4,none⟩=some _:=(zaf hS.blk 2 (by omega)).1
   have p5:wr.cell? ⟨W.heap.size+1,5,none⟩=some _:=(zaf hS.blk 2 (by omega)).2
   have p6:wr.cell? ⟨W.heap.size+1,6,none⟩=some _:=(zaf hS.blk 3 (by omega)).1
   have p7:wr.cell? ⟨W.heap.size+1,7,none⟩=some _:=(zaf hS.blk 3 (by omega)).2
   rw [hcz] at p1 p3 p5 p7
   have q0:wr.cell? ⟨W.heap.size,0,none⟩=some _:=zab hB0r 0
   have r0:wr.frozen? ⟨W.heap.size,0,none⟩=false:=zad hB0r 0
   have q1:wr.cell? ⟨W.heap.size,1,none⟩=some _:=zab hB0r 1
   have r1:wr.frozen? ⟨W.heap.size,1,none⟩=false:=zad hB0r 1
   have q2:wr.cell? ⟨W.heap.size,2,none⟩=some _:=zab hB0r 2
   have r2:wr.frozen? ⟨W.heap.size,2,none⟩=false:=zad hB0r 2
   have q3:wr.cell? ⟨W.heap.size,3,none⟩=some _:=zab hB0r 3
   have r3:wr.frozen? ⟨W.heap.size,3,none⟩=false:=zad hB0r 3
   have q4:wr.cell? ⟨W.heap.size,4,none⟩=some _:=zab hB0r 4
   have r4:wr.frozen? ⟨W.heap.size,4,none⟩=false:=zad hB0r 4
   have q5:wr.cell? ⟨W.heap.size,5,none⟩=some _:=zab hB0r 5
   have r5:wr.frozen? ⟨W.heap.size,5,none⟩=false:=zad hB0r 5
   have q6:wr.cell? ⟨W.heap.size,6,none⟩=some _:=zab hB0r 6
   have r6:wr.frozen? ⟨W.heap.size,6,none⟩=false:=zad hB0r 6
   have q7:wr.cell? ⟨W.heap.size,7,none⟩=some _:=zab hB0r 7
   have r7:wr.frozen? ⟨W.heap.size,7,none⟩=false:=zad hB0r 7
   have hbw:=hK.toBelow (zaa Hb2) (by omega)
   have Hbw:=zac hbw
   have HS:=zac hS
   have HB0r:=zac hB0r
   have Hrs:=zac hrs
   have Hcz:=zac hcz
   clear hS hK hB0r hbw hrs hcz
   go_wp2
   refine bodyPost_ret (v:=.agg (zag svk (fun _=>0))) (by simp [results,Tryz.results168,go_sem,zag,p0,q0,r0,p1,q1,r1,p2,q2,r2,p3,q3,r3,p4,q4,r4,p5,q5,r5,p6,q6,r6,p7,q7,r7]) rfl ⟨svk,rfl,fun i hi=>?_,?_⟩
   ·rw [← (zaa Hrs) i]
    refine ((zaa HS).runs i hi).asideZ (zaa HB0r) ((zaa HS).full i hi) (fun q hq=>?_)
    iterate 8 refine (Below.heap_setCell _ _ _ q (fun e=>hq e)).trans ?_
    rfl
   ·iterate 8 refine zbu ?_ (Nat.le_refl _) _ _
    exact zaa Hbw
theorem znu {X:Nat→Prop} {l B0 N:Nat} {J:List (H4×Int)→World→Prop} (hY:zrp X l B0 N J) (PB:Nat) (ka:Option Addr) (na kcap:Nat) (x1 x2:Value):∀ (sts:List Stp),(∀ st∈sts,zjx na st) →
  ∀ (stv:Value) (sv:Nat→SV) (S:Nat→Src) (row:H4) (pre:List (H4×Int)) (W:World),J pre W→B0≤W.heap.size→W.heap[PB]? = some (.cells #[.slice ka na kcap,x1,x2] 265 (0,0))→zeb W stv sts→SOK na sts S→(∀ i,i<4→zay W (sv i).val (S i).rs)→pre.length+zmn na S≤N→WfH row →
   Calls Tryz.prog 159 #[.pointer (some ⟨PB,0,none⟩),stv,.agg (zag sv (fun i=>((S i).c:Int))),.agg (h4C row),.func (.yield l) #[] #[]] W (zkr X l J pre (zs9 na sts S row) (zmn na S) W)
 | [],_,stv,sv,S,row,pre,W,hJ,hB,hP,hSt,hS,hr,hcnt,hrow=>by
  obtain ⟨a,cap,rfl,_,_⟩:=hSt
  exact yly hY PB ka na kcap x1 x2 a cap sv S row pre W hJ hB hP hS hr hcnt hrow
 | st :: sts,hst,stv,sv,S,row,pre,W,hJ,hB,hP,hSt,hS,hr,hcnt,hrow =>
  ye0 hY PB ka na kcap x1 x2 st sts (hst st (List.mem_cons_self ..)) (znu hY PB ka na kcap x1 x2 sts fun s hs=>hst s (List.mem_cons_of_mem _ hs)) stv sv S row pre W hJ hB hP hSt hS hr hcnt hrow
theorem yhu:WfH (0,0,0,0):=⟨zbm (z:=0) (by omega),zbm (z:=0) (by omega),zbm (z:=0) (by omega),zbm (z:=0) (by omega)⟩
structure zjl (W:World) (PB na:Nat) (nss:List (List Int)) (sts:List Stp):Prop where
 blk:∃ ka kcap nv stv,W.heap[PB]? = some (.cells #[.slice ka na kcap,nv,stv] 265 (0,0))∧znx W nv nss∧zeb W stv sts
 len:nss.length=na
 na4:na≤4
 ok:∀ st∈sts,zjx na st
theorem zgx (nss:List (List Int)) (S:Nat→Src):∀ n i,zjq nss S n i=if i<n then zgj (nss[i]?.getD []) (S i) else S i
 | 0,i=>rfl
 | n+1,i=>by
  show zfl (zjq nss S n) n (zgj (nss[n]?.getD []) (zjq nss S n n)) i=_
  by_cases h:i=n
  ·subst h
   rw [zcw,zgx nss S i i,if_neg (Nat.lt_irrefl _),if_pos (Nat.lt_succ_self _)]
  ·rw [zd7 _ _ h,zgx nss S n i]
   by_cases h2:i<n
   ·rw [if_pos h2,if_pos (by omega)]
   ·rw [if_neg h2,if_neg (by omega)]
structure POK (na:Nat) (nss:List (List Int)) (sts:List Stp) (S:Nat→Src):Prop where
 ok:∀ i,i<na→zcm (zk5 sts i+(nss[i]?.getD []).length) (S i)
 full:∀ i,i<4→∀ r∈(S i).rs,r≠[]
 wf:∀ i,i<na→∀ e∈zcn S i,zaw e.1
 small:∀ i,i<na→(zcn S i).length≤100000000000
def zdd:List Int→Nat→zaj→Bool
 | [],_,_=>true
 | z :: zs,c,e=>decide (zal e.1 c=z) && zdd zs (c+1) e
theorem ydy:∀ (zs:List Int) (s:Src),(zgj zs s).c=s.c+zs.length
 | [],s=>rfl
 | z :: zs,s=>by
  show (zgj zs (nar1 z s)).c=_
  rw [ydy zs]
  show s.c+1+zs.length=s.c+(zs.length+1)
  omega
theorem zhh:∀ (zs:List Int) {s:Src} {n:Nat},zcm (n+zs.length) s→(zgj zs s).rs.flatten=s.rs.flatten.filter (zdd zs s.c)
 | [],s,n,_=>by
  show s.rs.flatten=_
  rw [List.filter_eq_self.2]
  intro e _
  rfl
 | z :: zs,s,n,h=>by
  have h1:zcm (n+zs.length+1) s:=h
  show (zgj zs (nar1 z s)).rs.flatten=_
  rw [zhh zs (n:=n) (h1.nar1 z)]
  show (zc5 s.c z s.rs).flatten.filter (zdd zs (s.c+1))=_
  rw [zm4 (fun r hr=>(h1.lex r hr).1),List.filter_filter]
  congr 1
  funext e
  show _=(decide (zal e.1 s.c=z) && zdd zs (s.c+1) e)
  rw [Bool.and_comm]
theorem POK.sok {na:Nat} {nss:List (List Int)} {sts:List Stp} {S:Nat→Src} (h:POK na nss sts S) (hl:nss.length=na) (h4:na≤4):SOK na sts (zjq nss S nss.length) where
 na4:=h4
 ok:=fun i hi=>by
  rw [zgx,if_pos (by omega)]
  exact zcm.zgj _ (h.ok i hi)
 full:=fun i hi=>by
  rw [zgx]
  split
  ·rename_i h2
   exact (zcm.zgj (n:=zk5 sts i) _ (h.ok i (by omega))).full
  ·exact h.full i hi
 wf:=fun i hi e he=>by
  unfold zcn at he
  rw [zgx,if_pos (by omega),zhh _ (h.ok i hi)] at he
  exact h.wf i hi e (List.mem_filter.1 he).1
 small:=fun i hi=>by
  unfold zcn
  rw [zgx,if_pos (by omega),zhh _ (h.ok i hi)]
  exact Nat.le_trans (List.length_filter_le _ _) (h.small i hi)
def zte (na:Nat) (nss:List (List Int)) (sts:List Stp) (S:Nat→Src) (h:H4):B64:=zs9 na sts (zjq nss S nss.length) (0,0,0,0) h
theorem yee {na:Nat} {nss:List (List Int)} {sts:List Stp} {S:Nat→Src} (hl:nss.length=na) (h0:zng nss S=false) (h:H4):zte na nss sts S h=0#64:=by
 unfold zng at h0
 rw [List.all_eq_false] at h0
 obtain ⟨k,hk,he⟩:=h0
 have hk':=List.mem_range.1 hk
 have he':zis nss S k=[]:=by simpa using he
 unfold zis at he'
 refine zrh (i:=k) (by omega) ?_ _ _
 rw [zgx,if_pos (by omega)] at he' ⊢
 exact he'
theorem zso (PB:Nat) (sv:Nat→SV) (cs:Nat→Int) (w:World):Calls Tryz.prog 110 #[.pointer (some ⟨PB,0,none⟩),.agg (zag sv cs)] w fun e w'=>e=.returned (.func (.func 157) #[] #[.pointer (some ⟨w.heap.size,0,none⟩),.pointer (some ⟨w.heap.size+1,0,none⟩)])∧w'=(w.alloc (.cells #[.pointer (some ⟨PB,0,none⟩)] 84)).alloc (.cells (zag sv cs) 192):=by
 go_enter Tryz.func110,Tryz.ntmps110
 unfold zag
 go_wp2
 go_ret
 exact ⟨rfl,rfl⟩
def ylp (x:H4×Int):Array Value:=#[.agg (h4C x.1),.int .i64 x.2]
theorem ya6 (PB na:Nat) (nss:List (List Int)) (sts:List Stp) (sv:Nat→SV) (S:Nat→Src) (pB qB:Nat) (X:Nat→Prop) (l:Nat) (W:World) (hP:zjl W PB na nss sts) (hS:POK na nss sts S) (hr:∀ i,i<4→zay W (sv i).val (S i).rs)
  (hpB:W.heap[pB]? = some (.cells #[.pointer (some ⟨PB,0,none⟩)] 84 (0,0))) (hqB:W.heap[qB]? = some (.cells (zag sv (fun i=>((S i).c:Int))) 192 (0,0))) (hX:∀ k,X k∨k=l→k<W.heap.size) (N:Nat) (hcnt:zmn na (zjq nss S nss.length)≤N) :
  yid Tryz.prog 157 #[.pointer (some ⟨pB,0,none⟩),.pointer (some ⟨qB,0,none⟩)] ylp X (fun A=>∀ k,X k∨k=l→ztl A k) (fun ys=>ys.length≤N∧∃ pre x,ys=pre ++ [x]∧WfH x.1) (fun ys=>ys.length≤N∧∀ h,zrj ys h=zte na nss sts S h) l W:=by
 intro J hC hJ hY h0
 have hyok:zrp X l W.heap.size N J:=⟨hX,fun pre A h=>hC pre A h,hJ,fun pre x A h1 h2 h3 h4=>hY pre x A h1 h2 ⟨by rw [List.length_append];exact h3,pre,x,rfl,h4⟩⟩
 have Hcnt:=zac hcnt
 clear hcnt
 obtain ⟨⟨ka,kcap,nv,stv,hPB,hNs,hSt⟩,hlen,hna,hok⟩:=hP
 have c0:W.cell? ⟨pB,0,none⟩=some (.pointer (some ⟨PB,0,none⟩)):=zab hpB 0
 have p0:W.cell? ⟨qB,0,none⟩=some _:=(zaf hqB 0 (by omega)).1
 have p1:W.cell? ⟨qB,1,none⟩=some _:=(zaf hqB 0 (by omega)).2
 have p2:W.cell? ⟨qB,2,none⟩=some _:=(zaf hqB 1 (by omega)).1
 have p3:W.cell? ⟨qB,3,none⟩=some _:=(zaf hqB 1 (by omega)).2
 have p4:W.cell? ⟨qB,4,none⟩=some _:=(zaf hqB 2 (by omega)).1
 have p5:W.cell? ⟨qB,5,none⟩=some _:=(zaf hqB 2 (by omega)).2
 have p6:W.cell? ⟨qB,6,none⟩=some _:=(zaf hqB 3 (by omega)).1
 have p7:W.cell? ⟨qB,7,none⟩=some _:=(zaf hqB 3 (by omega)).2
 have hnar:=zxt PB nss nv (.slice ka na kcap) stv sv S W hPB hNs (by omega) hr hS.full (fun k hk=>(hS.ok k (by omega)).down (by omega))
 have Hnar:=zac hnar
 have Hy:=zac hyok
 have HPB:=zac hPB
 have HSt:=zac hSt
 have Hok:=zac hok
 have HS:=zac (hS.sok hlen hna)
 have Hh0:=zac h0
 have Hval:Hid (zng nss S=false→∀ h,zte na nss sts S h=0#64):=fun h0 h=>yee hlen h0 h
 have hpl:pB<W.heap.size:=(Array.getElem?_eq_some_iff.1 hpB).1
 clear hnar hyok hPB hSt hok hS h0 hpB hqB hr hNs hC hJ hY hlen
 refine (callsIn_wide (n:=9)).1 (callsIn_of_wp Tryz.func157 rfl trivial ?_ rfl)
 simp only [Tryz.ntmps157,List.size_toArray,List.length_cons,List.length_nil,Nat.reduceAdd,Nat.reduceSub,Array.replicate_succ,Array.replicate_zero,List.push_toArray,List.append_toArray,List.nil_append,List.cons_append]
 gi_wp2_with fail
 refine ⟨trivial,?_⟩
 refine (callsIn_wide.2 (zaa Hnar)).mono ?_
 rintro e w2 ⟨sv',cs',rfl,hb2,hl⟩
 dsimp only
 by_cases hleft:zng nss S=true
 ·obtain ⟨rfl,hR⟩:=hl hleft
  rw [hleft]
  obtain ⟨w3,hw3⟩:∃ w3,w3=w2.alloc (.cells (zag sv' (fun i=>((zjq nss S nss.length i).c:Int))) 192):=⟨_,rfl⟩
  have hb3:Below W.heap.size W w3:=by rw [hw3];exact hb2.alloc hb2.size _
  have hb23:Below w2.heap.size w2 w3:=by rw [hw3];exact (Below.refl _ _).alloc (Nat.le_refl _) _
  have hnb:w3.heap[w2.heap.size]? = some (.cells (zag sv' (fun i=>((zjq nss S nss.length i).c:Int))) 192 (0,0)):=by rw [hw3];exact zae _ _ _ rfl
  have hPB3:=(hb3.block PB (Array.getElem?_eq_some_iff.1 (zaa HPB)).1).trans (zaa HPB)
  have hcall:=znu (zaa Hy) PB ka na kcap nv stv sts (zaa Hok) stv sv' (zjq nss S nss.length) (0,0,0,0) [] w3.drew ((zaa Hy).st _ _ _ (zaa Hh0) (hb3.trans (zav _ _))) hb3.size hPB3 ((zaa HSt).below (hb3.trans (zav _ _))) (zaa HS) (fun i hi=>(hR i hi).below (hb23.trans (zav _ _))) (by have:=zaa Hcnt;simpa using this) yhu
  have c0':=(hb3.cell (p:=⟨pB,0,none⟩) hpl).trans c0
  have c2:w3.cell? ⟨PB,2,none⟩=some stv:=zab hPB3 2
  have y0:w3.cell? ⟨w2.heap.size,0,none⟩=some _:=(zaf hnb 0 (by omega)).1
  have y1:w3.cell? ⟨w2.heap.size,1,none⟩=some _:=(zaf hnb 0 (by omega)).2
  have y2:w3.cell? ⟨w2.heap.size,2,none⟩=some _:=(zaf hnb 1 (by omega)).1
  have y3:w3.cell? ⟨w2.heap.size,3,none⟩=some _:=(zaf hnb 1 (by omega)).2
  have y4:w3.cell? ⟨w2.heap.size,4,none⟩=some _:=(zaf hnb 2 (by omega)).1
  have y5:w3.cell? ⟨w2.heap.size,5,none⟩=some _:=(zaf hnb 2 (by omega)).2
  have y6:w3.cell? ⟨w2.heap.size,6,none⟩=some _:=(zaf hnb 3 (by omega)).1
  have y7:w3.cell? ⟨w2.heap.size,7,none⟩=some _:=(zaf hnb 3 (by omega)).2
  have Hcall:=zac hcall
  clear hcall hR hl hb2 hb3 hb23 hnb hPB3 p0 p1 p2 p3 p4 p5 p6 p7 c0
  unfold zag at hw3 ⊢
  gi_wp2_with fail
  rw [← hw3]
  clear hw3
  refine zdu ?_
  refine wpIn_region_any (by kernel_rfl) ?_
  change wpAnyIn _ _ _ _ _ _ _ _ _ (World.drew _)
  refine wpAnyIn_take (i:=6) (v:=.agg #[.int .i64 0,.int .i64 0,.int .i64 0,.int .i64 0]) rfl rfl (by kernel_rfl) (by kernel_rfl) (by kernel_rfl) (fun _ _ _ h=>h) ⟨Or.inl ⟨by rfl,(fun w'=>?_)⟩,fun _=>rfl⟩ ?_
  ·go_simp
  refine wpAnyIn_take (i:=7) (v:=.func (.yield l) #[] #[]) rfl rfl (by kernel_rfl) (by kernel_rfl) (by kernel_rfl) (fun _ _ _ h=>h) ⟨Or.inl ⟨by rfl,(fun w'=>?_)⟩,fun _=>rfl⟩ ?_
  ·go_simp
  refine zao (i:=1) (v:=.pointer (some ⟨PB,0,none⟩)) [0,1,5] rfl rfl (by kernel_rfl) (by kernel_rfl) (by kernel_rfl) (fun _ _ _ h=>h) ⟨by rfl,(fun w' hw=>?_),(fun _=>rfl)⟩ ?_
  ·have q:=hw.cell (show w3.drew.cell? ⟨pB,0,none⟩=_ from c0')
   go_simp
  refine wpAnyIn_take (i:=2) (v:=.pointer (some ⟨PB,0,none⟩)) rfl rfl (by kernel_rfl) (by kernel_rfl) (by kernel_rfl) (fun _ _ _ h=>h) ⟨Or.inl ⟨by rfl,(fun w'=>?_)⟩,fun _=>rfl⟩ ?_
  ·go_simp
  refine wpAnyIn_take (i:=3) (v:=.pointer (some ⟨PB,2,none⟩)) rfl rfl (by kernel_rfl) (by kernel_rfl) (by kernel_rfl) (fun _ _ _ h=>h) ⟨Or.inl ⟨by rfl,(fun w'=>?_)⟩,fun _=>rfl⟩ ?_
  ·go_simp
  refine zao (i:=4) (v:=stv) [0,4,5] rfl rfl (by kernel_rfl) (by kernel_rfl) (by kernel_rfl) (fun _ _ _ h=>h) ⟨by rfl,(fun w' hw=>?_),(fun _=>rfl)⟩ ?_
  ·have q:=hw.cell (show w3.drew.cell? ⟨PB,2,none⟩=_ from c2)
   go_simp
  refine zao (i:=0) (v:=.pointer (some ⟨PB,0,none⟩)) [0,5] rfl rfl (by kernel_rfl) (by kernel_rfl) (by kernel_rfl) (fun _ _ _ h=>h) ⟨by rfl,(fun w' hw=>?_),(fun _=>rfl)⟩ ?_
  ·have q:=hw.cell (show w3.drew.cell? ⟨pB,0,none⟩=_ from c0')
   go_simp
  refine zao (i:=5) (v:=.agg (zag sv' (fun i=>((zjq nss S nss.length i).c:Int)))) [5] rfl rfl (by kernel_rfl) (by kernel_rfl) (by kernel_rfl) (fun _ _ _ h=>h) ⟨by rfl,(fun w' hw=>?_),(fun _=>rfl)⟩ ?_
  ·have q0:=hw.cell (show w3.drew.cell? ⟨w2.heap.size,0,none⟩=_ from y0)
   have q1:=hw.cell (show w3.drew.cell? ⟨w2.heap.size,1,none⟩=_ from y1)
   have q2:=hw.cell (show w3.drew.cell? ⟨w2.heap.size,2,none⟩=_ from y2)
   have q3:=hw.cell (show w3.drew.cell? ⟨w2.heap.size,3,none⟩=_ from y3)
   have q4:=hw.cell (show w3.drew.cell? ⟨w2.heap.size,4,none⟩=_ from y4)
   have q5:=hw.cell (show w3.drew.cell? ⟨w2.heap.size,5,none⟩=_ from y5)
   have q6:=hw.cell (show w3.drew.cell? ⟨w2.heap.size,6,none⟩=_ from y6)
   have q7:=hw.cell (show w3.drew.cell? ⟨w2.heap.size,7,none⟩=_ from y7)
   unfold zag
   go_simp
  refine wpAnyIn_ready (rs:=[8]) (by kernel_rfl) (by simp) ?_
  refine AllReadyIn.cons rfl (fun K hK=>?_) AllReadyIn.nil
  go_simp
  refine ⟨trivial,?_⟩
  refine (callsIn_wide.2 (zaa Hcall)).mono ?_
  rintro e w4 ⟨rfl,ys,hs,hlen4,hJ4,_⟩
  dsimp only
  refine hK _ _ ?_
  clear hK K
  refine wpAnyIn_done (by kernel_rfl) ?_ _
  dsimp only [zkb]
  have Hfin:Hid (∃ xs,(xs.length≤N∧∀ h,zrj xs h=zte na nss sts S h)∧J xs w4):=⟨ys,⟨Nat.le_trans hlen4 (zaa Hcnt),hs⟩,by simpa using hJ4⟩
  clear hs hJ4 hlen4
  gi_wp2
  go_end0
  exact ⟨⟨_,rfl⟩,zaa Hfin⟩
 ·have hfl:zng nss S=false:=by simpa using hleft
  rw [hfl]
  have Hfin:Hid (∃ xs,(xs.length≤N∧∀ h,zrj xs h=zte na nss sts S h)∧∀ A,Below w2.heap.size w2 A→J xs A):=⟨[],⟨Nat.zero_le _,fun h=>((zaa Hval) hfl h).symm⟩,fun A hA=>(zaa Hy).st _ _ _ (zaa Hh0) (hb2.trans (hA.mono hb2.size))⟩
  clear hl hb2 p0 p1 p2 p3 p4 p5 p6 p7 c0
  unfold zag
  gi_wp2
  go_end0
  obtain ⟨xs,h1,h2⟩:=zaa Hfin
  exact ⟨⟨_,rfl⟩,xs,h1,h2 _ ((Below.refl _ _).alloc (Nat.le_refl _) _)⟩
end Go.Proofs.YtoifcnidhfnapaaGreatDoor
