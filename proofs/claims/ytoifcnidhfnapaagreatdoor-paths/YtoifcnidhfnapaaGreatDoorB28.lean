import Derived.Test.YtoifcnidhfnapaaGreatDoorB27
import Derived.Shelf.RegionOpenPlain
import Derived.Laws.Externs
set_option linter.unusedVariables false
set_option linter.unusedSimpArgs false
set_option maxRecDepth 100000
set_option maxHeartbeats 16000000
namespace Go.Proofs.YtoifcnidhfnapaaGreatDoor
open Go.RowKit Go.Maps Go.Sort Go.Shelf
def zh7 (K:IntKind) (t:TypeId) (off:Nat) (cs0:Array Value) (xs:List Nat) (w:World) (blk:Nat):Prop:=
 ∃ cs:Array Value,w.heap[blk]? = some (.cells cs t (0,0))∧cs.size=cs0.size∧(∀ k,k<xs.length→cs[off+k]? = some (.int K (xs[k]?.getD 0:Nat)))∧∀ q,¬ (off≤q∧q<off+xs.length)→cs[q]? = cs0[q]?
theorem zh7.keep {K:IntKind} {t:TypeId} {off:Nat} {cs0:Array Value} {xs:List Nat} {w w':World} {blk:Nat} (h:zh7 K t off cs0 xs w blk) (hb:w'.heap[blk]? = w.heap[blk]?):zh7 K t off cs0 xs w' blk:=by
 obtain ⟨cs,h1,h2⟩:=h
 exact ⟨cs,hb.trans h1,h2⟩
theorem zh7.cell {K:IntKind} {t:TypeId} {off:Nat} {cs0:Array Value} {xs:List Nat} {w:World} {blk:Nat} (h:zh7 K t off cs0 xs w blk) {k:Nat} (hk:k<xs.length):w.cell? ⟨blk,off+k,none⟩=some (.int K (xs[k]?.getD 0:Nat))∧w.frozen? ⟨blk,off+k,none⟩=false:=by
 obtain ⟨cs,h1,h2,h3,_⟩:=h
 exact ⟨(zab h1 _).trans (h3 k hk),zad h1 _⟩
theorem zdn {w:World} {B p:Nat} {cs:Array Value} {v:Value} {t:TypeId} (h:w.heap[B]? = some (.cells cs t (0,0))):(w.setCell ⟨B,p,none⟩ v).heap[B]? = some (.cells (cs.setIfInBounds p v) t (0,0)):=by
 simp only [World.setCell]
 rw [Array.getElem?_modify,if_pos rfl,h]
 rfl
theorem zh7.swap {K:IntKind} {t:TypeId} {off:Nat} {cs0:Array Value} {pre post:List Nat} {x y:Nat} {w:World} {blk:Nat} (h:zh7 K t off cs0 (pre ++ y :: x :: post) w blk) :
  zh7 K t off cs0 (pre ++ x :: y :: post) ((w.setCell ⟨blk,off+(pre.length+1),none⟩ (.int K y)).setCell ⟨blk,off+pre.length,none⟩ (.int K x)) blk:=by
 obtain ⟨cs,h1,h2,h3,h4⟩:=h
 have hlen:∀ a b:Nat,(pre ++ a :: b :: post).length=pre.length+post.length+2:=fun a b=>by simp;omega
 have s0:off+pre.length<cs.size:=by
  have:=h3 pre.length (by rw [hlen];omega)
  exact (Array.getElem?_eq_some_iff.1 this).1
 have s1:off+(pre.length+1)<cs.size:=by
  have:=h3 (pre.length+1) (by rw [hlen];omega)
  exact (Array.getElem?_eq_some_iff.1 this).1
 refine ⟨_,zdn (zdn h1),by simp [h2],fun k hk=>?_,fun q hq=>?_⟩
 ·rw [hlen] at hk
  rw [Array.getElem?_setIfInBounds,Array.getElem?_setIfInBounds]
  by_cases e0:k=pre.length
  ·subst e0
   rw [if_pos rfl,if_pos (by simpa using s0)]
   simp
  ·rw [if_neg (by omega)]
   by_cases e1:k=pre.length+1
   ·subst e1
    rw [if_pos rfl,if_pos s1]
    simp [List.getElem?_append_right]
   ·rw [if_neg (by omega),h3 k (by rw [hlen];omega)]
    congr 3
    rcases Nat.lt_or_ge k pre.length with hl|hl
    ·rw [List.getElem?_append_left hl,List.getElem?_append_left hl]
    ·obtain ⟨m,rfl⟩:∃ m,k=pre.length+(m+2):=⟨k - pre.length - 2,by omega⟩
     rw [List.getElem?_append_right (by omega),List.getElem?_append_right (by omega)]
     simp
 ·rw [hlen] at hq
  rw [Array.getElem?_setIfInBounds,Array.getElem?_setIfInBounds,if_neg (by omega),if_neg (by omega)]
  exact h4 q (by rw [hlen];exact hq)
theorem yer (κ:Nat→Int) {xs:List Nat} (h:xs.length≤1):stS κ xs=xs:=by
 match xs,h with
 | [],_=>rfl
 | [x],_=>rfl
theorem zgb (w:World) (b o:Nat) (v:Value):KeepX (fun q=>q=b) w (w.setCell ⟨b,o,none⟩ v):=by
 have hC:=zai w b o v
 exact ⟨hC.os,hC.tape,hC.output,hC.size,fun q hq hx=>hC.block q hq (fun e=>hx (by injection e))⟩
def yhw (g:Nat) (cb:Array Value) (K:IntKind) (κ:Nat→Int) (xs:List Nat) (blk:Nat) (W:World):Prop:=
 ∀ (W':World) (x y:Nat),x∈xs→y∈xs→KeepX (fun q=>q=blk) W W'→Calls Tryz.prog g (#[.int K x,.int K y] ++ cb) W' fun e w'=>∃ c:Int,e=.returned (.int .i64 c)∧(c<0↔κ x<κ y)∧Below W'.heap.size W' w'
theorem ygl (g:Nat) (cb:Array Value) (κ:Nat→Int) (blk off cap:Nat) (t:TypeId) (cs0:Array Value) (xs:List Nat) (W:World) (eg:∀ args w,(callFunc g args).run Tryz.prog w=.ok (.enter g args) w) (hcmp:yhw g cb .i64 κ xs blk W) (hR:zh7 .i64 t off cs0 xs W blk) (hn:xs.length≤19) :
  Calls Tryz.prog 254 #[.slice (some ⟨blk,off,none⟩) xs.length cap,.int .i64 0,.int .i64 xs.length,.func (.func g) #[] cb] W fun e w'=>e=.returned (.tuple #[])∧zh7 .i64 t off cs0 (stS κ xs) w' blk∧KeepX (fun q=>q=blk) W w':=by
 have mixed:Tryz.prog.follows .mixedOrders=true:=by kernel_rfl
 have Hcmp:=zac hcmp
 have HR:=zac hR
 clear hcmp hR
 go_enter Tryz.func254,Tryz.ntmps254
 go_wp2
 go_loopw [8] (fun vi wr=>∃ i:Nat,1≤i∧i≤xs.length+1∧vi=.int .i64 i∧zh7 .i64 t off cs0 (stS κ (xs.take i) ++ xs.drop i) wr blk∧KeepX (fun q=>q=blk) W wr) (fun vi _=>xs.length+1 - (intOf vi).toNat)
 case atStart=>exact ⟨1,by omega,by omega,rfl,by rw [yer κ (by simp;omega),List.take_append_drop];exact zaa HR,KeepX.refl _ _⟩
 case round =>
  obtain ⟨i,hi1,hin,rfl,hRi,hKi⟩:=hrel
  by_cases hlt:i<xs.length
  ·have hltz:(i:Int)<(xs.length:Int):=by omega
   obtain ⟨x,hx⟩:∃ x,x=xs[i]:=⟨_,rfl⟩
   have hdrop:xs.drop i=x :: xs.drop (i+1):=by rw [hx];exact List.drop_eq_getElem_cons hlt
   have htake:xs.take (i+1)=xs.take i ++ [x]:=by rw [hx];exact List.take_succ_eq_append_getElem hlt
   have hxm:x∈xs:=by rw [hx];exact List.getElem_mem hlt
   have hsl:(stS κ (xs.take i)).length=i:=by rw [zs3];simp;omega
   have hsm:∀ y∈stS κ (xs.take i),y∈xs:=fun y hy=>List.mem_of_mem_take ((znr κ _).mem_iff.1 hy)
   have hss:=zzj κ (xs.take i)
   have hsn:=zs4 κ (xs.take i) x
   rw [← htake] at hsn
   rw [hdrop] at hRi
   generalize stS κ (xs.take i)=sl at *
   generalize hD:xs.drop (i+1)=D at *
   have hDl:D.length=xs.length - (i+1):=by rw [← hD];simp
   have Hss:=zac hss
   have Hsn:=zac hsn
   have HRi:=zac hRi
   have HKi:=zac hKi
   have Hsm:=zac hsm
   have Hxm:=zac hxm
   have HDe:=zac hD
   clear hss hsn hRi hKi hsm hxm hx hdrop htake hD
   go_wp2
   go_loopw [9] (fun vj wr=>∃ (j:Nat) (pre post:List Nat),pre.length=j∧vj=.int .i64 j∧pre ++ post=sl∧(∀ y∈post,κ x<κ y)∧zh7 .i64 t off cs0 (pre ++ x :: (post ++ D)) wr blk∧KeepX (fun q=>q=blk) W wr) (fun vj _=>(intOf vj).toNat)
   case atStart=>exact ⟨i,sl,[],hsl,rfl,by simp,by simp,by simpa using zaa HRi,zaa HKi⟩
   case round =>
    obtain ⟨j,pre,post,hpl,rfl,hsp,hpo,hRj,hKj⟩:=hrel
    by_cases hj0:j=0
    ·subst hj0
     have hpn:pre=[]:=List.eq_nil_of_length_eq_zero hpl
     subst hpn
     have Hend:Hid (zh7 .i64 t off cs0 (stS κ (xs.take (i+1)) ++ xs.drop (i+1)) wr blk∧KeepX (fun q=>q=blk) W wr):=by
      refine ⟨?_,hKj⟩
      rw [zaa Hsn,zaa HDe,← hsp,← zr5 (by rw [hsp];exact zaa Hss) hpo (.inl rfl)]
      simpa using hRj
     clear hRj hKj hpo
     go_wp2_with fail
     go_big_region_o
     all_goals go_wp2
     go_roundw
     case rel=>exact ⟨i+1,by omega,by omega,by go_num,(zaa Hend).1,(zaa Hend).2.trans (KeepX.ofBelow (zav _ _))⟩
     case measure=>simp [intOf];omega
    ·obtain ⟨jp,rfl⟩:∃ jp,j=jp+1:=⟨j - 1,by omega⟩
     obtain ⟨p,y,rfl⟩:∃ p y,pre=p ++ [y]:=⟨pre.dropLast,pre.getLast (by intro e;subst e;simp at hpl),(List.dropLast_concat_getLast _).symm⟩
     have hpj:p.length=jp:=by simpa using hpl
     have hym:y∈xs:=(zaa Hsm) y (by rw [← hsp];simp)
     have hRj':zh7 .i64 t off cs0 (p ++ y :: x :: (post ++ D)) wr blk:=by simpa using hRj
     have hji:jp+1+post.length=i:=by
      have:=congrArg List.length hsp
      rw [List.length_append,hpl,hsl] at this
      exact this
     have hlen:(p ++ y :: x :: (post ++ D)).length=xs.length:=by
      simp only [List.length_append,List.length_cons]
      omega
     obtain ⟨cj,fj⟩:=hRj'.cell (k:=jp+1) (by rw [hlen];omega)
     obtain ⟨cp,fp⟩:=hRj'.cell (k:=jp) (by rw [hlen];omega)
     rw [show (p ++ y :: x :: (post ++ D))[jp+1]?.getD 0=x by rw [← hpj];simp [List.getElem?_append_right]] at cj
     rw [show (p ++ y :: x :: (post ++ D))[jp]?.getD 0=y by rw [← hpj];simp] at cp
     have hwp:IntKind.i64.wrap (jp:Int)=(jp:Int):=by rw [IntKind.wrap_i64];omega
     have jz:(jp:Int)+1<(xs.length:Int):=by omega
     have jz1:(jp:Int)<(xs.length:Int):=by omega
     have p0:(0:Int)≤(jp:Int)+1:=by omega
     have e0:((jp:Int)+1).toNat=jp+1:=by omega
     have hg0:(0:Int)<(jp:Int)+1:=by omega
     have hbl:blk<wr.heap.size:=World.block_lt_of_cell? wr _ cj
     have hc:=fun W' (h:Below wr.heap.size wr W')=>(zaa Hcmp) W' x y (zaa Hxm) hym (hKj.trans (KeepX.ofBelow h))
     have Hc:=zac hc
     have HRj:=zac hRj'
     have HKj:=zac hKj
     have Hpo:=zac hpo
     have Hsp:=zac hsp
     clear hc hRj hRj' hKj hpo hsp hym hlen hpl
     go_wp2_with fail
     go_region_held3 (fun W'=>W'.cell? ⟨blk,off+(jp+1),none⟩=some (.int .i64 x)∧W'.cell? ⟨blk,off+jp,none⟩=some (.int .i64 y))
      (first
       | go_keep
       | (go_split_ands;refine ⟨?_,?_⟩ <;> (rw [hb1.cell (by simpa using hbl)];assumption)))
      (first
       | (go_at_fn g;refine ((zaa Hc) _ ?_).mono ?_;exact zav _ _;rintro e w1 ⟨c,rfl,hcc,hb1⟩))
     by_cases hlv:κ x<κ y
     ·have hc0:c<0:=hcc.2 hlv
      have hb1':Below wr.heap.size wr w1:=(zav _ _).trans hb1
      have cj1:w1.cell? ⟨blk,off+(jp+1),none⟩=some (.int .i64 x):=(hb1'.cell (p:=⟨blk,off+(jp+1),none⟩) hbl).trans cj
      have cp1:w1.cell? ⟨blk,off+jp,none⟩=some (.int .i64 y):=(hb1'.cell (p:=⟨blk,off+jp,none⟩) hbl).trans cp
      have hR1:=(zaa HRj).keep (hb1'.block blk hbl)
      have fj1:w1.frozen? ⟨blk,off+(jp+1),none⟩=false:=(hR1.cell (k:=jp+1) (by simp;omega)).2
      have fp1:w1.frozen? ⟨blk,off+jp,none⟩=false:=(hR1.cell (k:=jp) (by simp;omega)).2
      have Hend:Hid (∀ W2,Below w1.heap.size w1 W2→zh7 .i64 t off cs0 (p ++ x :: ((y :: post) ++ D)) ((W2.setCell ⟨blk,off+(jp+1),none⟩ (.int .i64 y)).setCell ⟨blk,off+jp,none⟩ (.int .i64 x)) blk∧KeepX (fun q=>q=blk) W ((W2.setCell ⟨blk,off+(jp+1),none⟩ (.int .i64 y)).setCell ⟨blk,off+jp,none⟩ (.int .i64 x))):=by
       intro W2 hW2
       refine ⟨?_,(((zaa HKj).trans (KeepX.ofBelow hb1')).trans (KeepX.ofBelow hW2)).trans ((zgb _ _ _ _).trans (zgb _ _ _ _))⟩
       have h:=(hR1.keep (hW2.block blk (Nat.lt_of_lt_of_le hbl hb1'.size))).swap
       rw [hpj] at h
       exact h
      have hsp2:p ++ y :: post=sl:=by have:=zaa Hsp;simpa using this
      have Hsp2:=zac hsp2
      clear hsp2
      clear hb1 hb1' hcc hR1 cj cp fj fp
      go_wp2_with fail
      obtain ⟨j1,hj1⟩:∃ j1,j1=jp+1:=⟨_,rfl⟩
      rw [← hj1] at cj1 fj1 e0
      have J1:=zac hj1
      clear hj1
      go_big_region_o
      all_goals go_wp2
      go_roundw
      case rel =>
       have h1:=(zaa Hend) _ (zav _ w1)
       rw [← zaa J1] at h1
       exact ⟨jp,p,y :: post,hpj,rfl,zaa Hsp2,fun z hz=>by rcases List.mem_cons.1 hz with rfl|hz;exact hlv;exact (zaa Hpo) z hz,h1.1,h1.2⟩
      case measure=>simp [intOf]
     ·have hc0:¬ c<0:=fun h=>hlv (hcc.1 h)
      have hb1':Below wr.heap.size wr w1:=(zav _ _).trans hb1
      have Hend:Hid (zh7 .i64 t off cs0 (stS κ (xs.take (i+1)) ++ xs.drop (i+1)) w1 blk∧KeepX (fun q=>q=blk) W w1):=by
       refine ⟨?_,(zaa HKj).trans (KeepX.ofBelow hb1')⟩
       rw [zaa Hsn,zaa HDe,← zaa Hsp,← zr5 (by rw [zaa Hsp];exact zaa Hss) (zaa Hpo) (.inr ⟨p,y,rfl,by omega⟩)]
       have h:=(zaa HRj).keep (hb1'.block blk hbl)
       simpa using h
      clear hb1 hb1' hcc
      go_wp2
      go_roundw
      case rel=>exact ⟨i+1,by omega,by omega,by go_num,(zaa Hend).1,(zaa Hend).2⟩
      case measure=>simp [intOf];omega
  ·have hltz:¬ (i:Int)<(xs.length:Int):=by omega
   have Hend:Hid (zh7 .i64 t off cs0 (stS κ xs) wr blk∧KeepX (fun q=>q=blk) W wr):=by
    refine ⟨?_,hKi⟩
    rw [List.take_of_length_le (by omega),List.drop_eq_nil_of_le (by omega),List.append_nil] at hRi
    exact hRi
   clear hRi hKi
   go_wp2
   go_end0
   exact ⟨rfl,zaa Hend⟩
theorem zx6 (g:Nat) (cb:Array Value) (κ:Nat→Int) (blk off cap:Nat) (t:TypeId) (cs0:Array Value) (xs:List Nat) (W:World) (eg:∀ args w,(callFunc g args).run Tryz.prog w=.ok (.enter g args) w) (hcmp:yhw g cb .i64 κ xs blk W) (hR:zh7 .i64 t off cs0 xs W blk) (hn:xs.length≤19) :
  Calls Tryz.prog 223 #[.slice (some ⟨blk,off,none⟩) xs.length cap,.int .i64 xs.length,.func (.func g) #[] cb] W fun e w'=>e=.returned (.tuple #[])∧zh7 .i64 t off cs0 (stS κ xs) w' blk∧KeepX (fun q=>q=blk) W w':=by
 have H:=zac (ygl g cb κ blk off cap t cs0 xs W eg hcmp hR hn)
 have h20:¬ (20:Int)≤(xs.length:Int):=by omega
 have h20':¬ (20:Int)<(xs.length:Int):=by omega
 clear hcmp hR
 go_enter Tryz.func223,Tryz.ntmps223
 go_wp2
 refine wp_loop_rounds 1 ?_
 rw [rounds_succ]
 go_wp2_with (first|(go_at_call 254;refine (zaa H).mono ?_;rintro e w' ⟨rfl,h1,h2⟩))
 refine wp_loop_rounds 1 ?_
 rw [rounds_succ]
 have H1:=zac h1
 have H2:=zac h2
 clear h1 h2
 go_wp2
 go_end0
 exact ⟨rfl,zaa H1,zaa H2⟩
theorem zo8 (g:Nat) (cb:Array Value) (κ:Nat→Int) (blk off cap:Nat) (t:TypeId) (cs0:Array Value) (xs:List Nat) (W:World) (eg:∀ args w,(callFunc g args).run Tryz.prog w=.ok (.enter g args) w) (hcmp:yhw g cb .i64 κ xs blk W) (hR:zh7 .i64 t off cs0 xs W blk) (hn:xs.length≤19) :
  Calls Tryz.prog 196 #[.slice (some ⟨blk,off,none⟩) xs.length cap,.func (.func g) #[] cb] W fun e w'=>e=.returned (.tuple #[])∧zh7 .i64 t off cs0 (stS κ xs) w' blk∧KeepX (fun q=>q=blk) W w':=by
 have H:=zac (zx6 g cb κ blk off cap t cs0 xs W eg hcmp hR hn)
 clear hcmp hR
 go_enter Tryz.func196,Tryz.ntmps196
 go_wp2_with (first|(go_at_call 223;refine (zaa H).mono ?_;rintro e w' ⟨rfl,h1,h2⟩))
 have H1:=zac h1
 have H2:=zac h2
 clear h1 h2
 go_end0
 exact ⟨rfl,zaa H1,zaa H2⟩
theorem ygk (g:Nat) (cb:Array Value) (κ:Nat→Int) (blk off cap:Nat) (t:TypeId) (cs0:Array Value) (xs:List Nat) (W:World) (eg:∀ args w,(callFunc g args).run Tryz.prog w=.ok (.enter g args) w) (hcmp:yhw g cb .u8 κ xs blk W) (hR:zh7 .u8 t off cs0 xs W blk) (hn:xs.length≤19) :
  Calls Tryz.prog 252 #[.slice (some ⟨blk,off,none⟩) xs.length cap,.int .i64 0,.int .i64 xs.length,.func (.func g) #[] cb] W fun e w'=>e=.returned (.tuple #[])∧zh7 .u8 t off cs0 (stS κ xs) w' blk∧KeepX (fun q=>q=blk) W w':=by
 have mixed:Tryz.prog.follows .mixedOrders=true:=by kernel_rfl
 have Hcmp:=zac hcmp
 have HR:=zac hR
 clear hcmp hR
 go_enter Tryz.func252,Tryz.ntmps252
 go_wp2
 go_loopw [8] (fun vi wr=>∃ i:Nat,1≤i∧i≤xs.length+1∧vi=.int .i64 i∧zh7 .u8 t off cs0 (stS κ (xs.take i) ++ xs.drop i) wr blk∧KeepX (fun q=>q=blk) W wr) (fun vi _=>xs.length+1 - (intOf vi).toNat)
 case atStart=>exact ⟨1,by omega,by omega,rfl,by rw [yer κ (by simp;omega),List.take_append_drop];exact zaa HR,KeepX.refl _ _⟩
 case round =>
  obtain ⟨i,hi1,hin,rfl,hRi,hKi⟩:=hrel
  by_cases hlt:i<xs.length
  ·have hltz:(i:Int)<(xs.length:Int):=by omega
   obtain ⟨x,hx⟩:∃ x,x=xs[i]:=⟨_,rfl⟩
   have hdrop:xs.drop i=x :: xs.drop (i+1):=by rw [hx];exact List.drop_eq_getElem_cons hlt
   have htake:xs.take (i+1)=xs.take i ++ [x]:=by rw [hx];exact List.take_succ_eq_append_getElem hlt
   have hxm:x∈xs:=by rw [hx];exact List.getElem_mem hlt
   have hsl:(stS κ (xs.take i)).length=i:=by rw [zs3];simp;omega
   have hsm:∀ y∈stS κ (xs.take i),y∈xs:=fun y hy=>List.mem_of_mem_take ((znr κ _).mem_iff.1 hy)
   have hss:=zzj κ (xs.take i)
   have hsn:=zs4 κ (xs.take i) x
   rw [← htake] at hsn
   rw [hdrop] at hRi
   generalize stS κ (xs.take i)=sl at *
   generalize hD:xs.drop (i+1)=D at *
   have hDl:D.length=xs.length - (i+1):=by rw [← hD];simp
   have Hss:=zac hss
   have Hsn:=zac hsn
   have HRi:=zac hRi
   have HKi:=zac hKi
   have Hsm:=zac hsm
   have Hxm:=zac hxm
   have HDe:=zac hD
   clear hss hsn hRi hKi hsm hxm hx hdrop htake hD
   go_wp2
   go_loopw [9] (fun vj wr=>∃ (j:Nat) (pre post:List Nat),pre.length=j∧vj=.int .i64 j∧pre ++ post=sl∧(∀ y∈post,κ x<κ y)∧zh7 .u8 t off cs0 (pre ++ x :: (post ++ D)) wr blk∧KeepX (fun q=>q=blk) W wr) (fun vj _=>(intOf vj).toNat)
   case atStart=>exact ⟨i,sl,[],hsl,rfl,by simp,by simp,by simpa using zaa HRi,zaa HKi⟩
   case round =>
    obtain ⟨j,pre,post,hpl,rfl,hsp,hpo,hRj,hKj⟩:=hrel
    by_cases hj0:j=0
    ·subst hj0
     have hpn:pre=[]:=List.eq_nil_of_length_eq_zero hpl
     subst hpn
     have Hend:Hid (zh7 .u8 t off cs0 (stS κ (xs.take (i+1)) ++ xs.drop (i+1)) wr blk∧KeepX (fun q=>q=blk) W wr):=by
      refine ⟨?_,hKj⟩
      rw [zaa Hsn,zaa HDe,← hsp,← zr5 (by rw [hsp];exact zaa Hss) hpo (.inl rfl)]
      simpa using hRj
     clear hRj hKj hpo
     go_wp2_with fail
     go_big_region_o
     all_goals go_wp2
     go_roundw
     case rel=>exact ⟨i+1,by omega,by omega,by go_num,(zaa Hend).1,(zaa Hend).2.trans (KeepX.ofBelow (zav _ _))⟩
     case measure=>simp [intOf];omega
    ·obtain ⟨jp,rfl⟩:∃ jp,j=jp+1:=⟨j - 1,by omega⟩
     obtain ⟨p,y,rfl⟩:∃ p y,pre=p ++ [y]:=⟨pre.dropLast,pre.getLast (by intro e;subst e;simp at hpl),(List.dropLast_concat_getLast _).symm⟩
     have hpj:p.length=jp:=by simpa using hpl
     have hym:y∈xs:=(zaa Hsm) y (by rw [← hsp];simp)
     have hRj':zh7 .u8 t off cs0 (p ++ y :: x :: (post ++ D)) wr blk:=by simpa using hRj
     have hji:jp+1+post.length=i:=by
      have:=congrArg List.length hsp
      rw [List.length_append,hpl,hsl] at this
      exact this
     have hlen:(p ++ y :: x :: (post ++ D)).length=xs.length:=by
      simp only [List.length_append,List.length_cons]
      omega
     obtain ⟨cj,fj⟩:=hRj'.cell (k:=jp+1) (by rw [hlen];omega)
     obtain ⟨cp,fp⟩:=hRj'.cell (k:=jp) (by rw [hlen];omega)
     rw [show (p ++ y :: x :: (post ++ D))[jp+1]?.getD 0=x by rw [← hpj];simp [List.getElem?_append_right]] at cj
     rw [show (p ++ y :: x :: (post ++ D))[jp]?.getD 0=y by rw [← hpj];simp] at cp
     have hwp:IntKind.i64.wrap (jp:Int)=(jp:Int):=by rw [IntKind.wrap_i64];omega
     have jz:(jp:Int)+1<(xs.length:Int):=by omega
     have jz1:(jp:Int)<(xs.length:Int):=by omega
     have p0:(0:Int)≤(jp:Int)+1:=by omega
     have e0:((jp:Int)+1).toNat=jp+1:=by omega
     have hg0:(0:Int)<(jp:Int)+1:=by omega
     have hbl:blk<wr.heap.size:=World.block_lt_of_cell? wr _ cj
     have hc:=fun W' (h:Below wr.heap.size wr W')=>(zaa Hcmp) W' x y (zaa Hxm) hym (hKj.trans (KeepX.ofBelow h))
     have Hc:=zac hc
     have HRj:=zac hRj'
     have HKj:=zac hKj
     have Hpo:=zac hpo
     have Hsp:=zac hsp
     clear hc hRj hRj' hKj hpo hsp hym hlen hpl
     go_wp2_with fail
     go_region_held3 (fun W'=>W'.cell? ⟨blk,off+(jp+1),none⟩=some (.int .u8 x)∧W'.cell? ⟨blk,off+jp,none⟩=some (.int .u8 y))
      (first
       | go_keep
       | (go_split_ands;refine ⟨?_,?_⟩ <;> (rw [hb1.cell (by simpa using hbl)];assumption)))
      (first
       | (go_at_fn g;refine ((zaa Hc) _ ?_).mono ?_;exact zav _ _;rintro e w1 ⟨c,rfl,hcc,hb1⟩))
     by_cases hlv:κ x<κ y
     ·have hc0:c<0:=hcc.2 hlv
      have hb1':Below wr.heap.size wr w1:=(zav _ _).trans hb1
      have cj1:w1.cell? ⟨blk,off+(jp+1),none⟩=some (.int .u8 x):=(hb1'.cell (p:=⟨blk,off+(jp+1),none⟩) hbl).trans cj
      have cp1:w1.cell? ⟨blk,off+jp,none⟩=some (.int .u8 y):=(hb1'.cell (p:=⟨blk,off+jp,none⟩) hbl).trans cp
      have hR1:=(zaa HRj).keep (hb1'.block blk hbl)
      have fj1:w1.frozen? ⟨blk,off+(jp+1),none⟩=false:=(hR1.cell (k:=jp+1) (by simp;omega)).2
      have fp1:w1.frozen? ⟨blk,off+jp,none⟩=false:=(hR1.cell (k:=jp) (by simp;omega)).2
      have Hend:Hid (∀ W2,Below w1.heap.size w1 W2→zh7 .u8 t off cs0 (p ++ x :: ((y :: post) ++ D)) ((W2.setCell ⟨blk,off+(jp+1),none⟩ (.int .u8 y)).setCell ⟨blk,off+jp,none⟩ (.int .u8 x)) blk∧KeepX (fun q=>q=blk) W ((W2.setCell ⟨blk,off+(jp+1),none⟩ (.int .u8 y)).setCell ⟨blk,off+jp,none⟩ (.int .u8 x))):=by
       intro W2 hW2
       refine ⟨?_,(((zaa HKj).trans (KeepX.ofBelow hb1')).trans (KeepX.ofBelow hW2)).trans ((zgb _ _ _ _).trans (zgb _ _ _ _))⟩
       have h:=(hR1.keep (hW2.block blk (Nat.lt_of_lt_of_le hbl hb1'.size))).swap
       rw [hpj] at h
       exact h
      have hsp2:p ++ y :: post=sl:=by have:=zaa Hsp;simpa using this
      have Hsp2:=zac hsp2
      clear hsp2
      clear hb1 hb1' hcc hR1 cj cp fj fp
      go_wp2_with fail
      obtain ⟨j1,hj1⟩:∃ j1,j1=jp+1:=⟨_,rfl⟩
      rw [← hj1] at cj1 fj1 e0
      have J1:=zac hj1
      clear hj1
      go_big_region_o
      all_goals go_wp2
      go_roundw
      case rel =>
       have h1:=(zaa Hend) _ (zav _ w1)
       rw [← zaa J1] at h1
       exact ⟨jp,p,y :: post,hpj,rfl,zaa Hsp2,fun z hz=>by rcases List.mem_cons.1 hz with rfl|hz;exact hlv;exact (zaa Hpo) z hz,h1.1,h1.2⟩
      case measure=>simp [intOf]
     ·have hc0:¬ c<0:=fun h=>hlv (hcc.1 h)
      have hb1':Below wr.heap.size wr w1:=(zav _ _).trans hb1
      have Hend:Hid (zh7 .u8 t off cs0 (stS κ (xs.take (i+1)) ++ xs.drop (i+1)) w1 blk∧KeepX (fun q=>q=blk) W w1):=by
       refine ⟨?_,(zaa HKj).trans (KeepX.ofBelow hb1')⟩
       rw [zaa Hsn,zaa HDe,← zaa Hsp,← zr5 (by rw [zaa Hsp];exact zaa Hss) (zaa Hpo) (.inr ⟨p,y,rfl,by omega⟩)]
       have h:=(zaa HRj).keep (hb1'.block blk hbl)
       simpa using h
      clear hb1 hb1' hcc
      go_wp2
      go_roundw
      case rel=>exact ⟨i+1,by omega,by omega,by go_num,(zaa Hend).1,(zaa Hend).2⟩
      case measure=>simp [intOf];omega
  ·have hltz:¬ (i:Int)<(xs.length:Int):=by omega
   have Hend:Hid (zh7 .u8 t off cs0 (stS κ xs) wr blk∧KeepX (fun q=>q=blk) W wr):=by
    refine ⟨?_,hKi⟩
    rw [List.take_of_length_le (by omega),List.drop_eq_nil_of_le (by omega),List.append_nil] at hRi
    exact hRi
   clear hRi hKi
   go_wp2
   go_end0
   exact ⟨rfl,zaa Hend⟩
theorem zx5 (g:Nat) (cb:Array Value) (κ:Nat→Int) (blk off cap:Nat) (t:TypeId) (cs0:Array Value) (xs:List Nat) (W:World) (eg:∀ args w,(callFunc g args).run Tryz.prog w=.ok (.enter g args) w) (hcmp:yhw g cb .u8 κ xs blk W) (hR:zh7 .u8 t off cs0 xs W blk) (hn:xs.length≤19) :
  Calls Tryz.prog 221 #[.slice (some ⟨blk,off,none⟩) xs.length cap,.int .i64 xs.length,.func (.func g) #[] cb] W fun e w'=>e=.returned (.tuple #[])∧zh7 .u8 t off cs0 (stS κ xs) w' blk∧KeepX (fun q=>q=blk) W w':=by
 have H:=zac (ygk g cb κ blk off cap t cs0 xs W eg hcmp hR hn)
 have h20:¬ (20:Int)≤(xs.length:Int):=by omega
 have h20':¬ (20:Int)<(xs.length:Int):=by omega
 clear hcmp hR
 go_enter Tryz.func221,Tryz.ntmps221
 go_wp2
 refine wp_loop_rounds 1 ?_
 rw [rounds_succ]
 go_wp2_with (first|(go_at_call 252;refine (zaa H).mono ?_;rintro e w' ⟨rfl,h1,h2⟩))
 refine wp_loop_rounds 1 ?_
 rw [rounds_succ]
 have H1:=zac h1
 have H2:=zac h2
 clear h1 h2
 go_wp2
 go_end0
 exact ⟨rfl,zaa H1,zaa H2⟩
theorem zo7 (g:Nat) (cb:Array Value) (κ:Nat→Int) (blk off cap:Nat) (t:TypeId) (cs0:Array Value) (xs:List Nat) (W:World) (eg:∀ args w,(callFunc g args).run Tryz.prog w=.ok (.enter g args) w) (hcmp:yhw g cb .u8 κ xs blk W) (hR:zh7 .u8 t off cs0 xs W blk) (hn:xs.length≤19) :
  Calls Tryz.prog 192 #[.slice (some ⟨blk,off,none⟩) xs.length cap,.func (.func g) #[] cb] W fun e w'=>e=.returned (.tuple #[])∧zh7 .u8 t off cs0 (stS κ xs) w' blk∧KeepX (fun q=>q=blk) W w':=by
 have H:=zac (zx5 g cb κ blk off cap t cs0 xs W eg hcmp hR hn)
 clear hcmp hR
 go_enter Tryz.func192,Tryz.ntmps192
 go_wp2_with (first|(go_at_call 221;refine (zaa H).mono ?_;rintro e w' ⟨rfl,h1,h2⟩))
 have H1:=zac h1
 have H2:=zac h2
 clear h1 h2
 go_end0
 exact ⟨rfl,zaa H1,zaa H2⟩
def zaz (s:ByteArray):List Nat:=s.data.toList.map (·.toNat)
theorem zbx (s:ByteArray):(zaz s).length=s.size:=by
 unfold zaz
 rw [List.length_map]
 rfl
theorem zr0 (s:ByteArray) (c:Nat) (hc:c<256):Go.firstIdx s ((c:Int).toNat.toUInt8)=zl8 (zaz s) c:=by
 have hp:∀ i,i<s.size→((s[i]! == ((c:Int).toNat.toUInt8))=true↔(zaz s)[i]? = some c):=by
  intro i hi
  have e1:s[i]! = s.data[i]'hi:=by
   rw [getElem!_pos s i hi]
   rfl
  have e2:(zaz s)[i]? = some (s.data[i]'hi).toNat:=by
   unfold zaz
   rw [List.getElem?_map,Array.getElem?_toList,Array.getElem?_eq_getElem hi]
   rfl
  rw [e1,e2,beq_iff_eq,Option.some.injEq]
  constructor
  ·intro h
   rw [h]
   simp
   omega
  ·intro h
   rw [← UInt8.toNat_inj,h]
   simp
   omega
 unfold Go.firstIdx zl8
 cases h:(List.range s.size).find? (fun i=>s[i]! == ((c:Int).toNat.toUInt8)) with
 | none =>
  rw [List.find?_eq_none] at h
  have:(zaz s).findIdx? (fun v=>decide (v=c))=none:=by
   rw [List.findIdx?_eq_none_iff]
   intro v hv
   obtain ⟨i,hi,rfl⟩:=List.getElem_of_mem hv
   have hi':i<s.size:=by rwa [zbx] at hi
   have h1:=h i (List.mem_range.2 hi')
   rw [hp i hi'] at h1
   simp only [decide_eq_false_iff_not]
   intro e
   exact h1 (by rw [List.getElem?_eq_getElem hi,e])
  rw [this]
 | some i =>
  rw [List.find?_range_eq_some] at h
  obtain ⟨h1,h2,h3⟩:=h
  have hi':=List.mem_range.1 h2
  rw [hp i hi'] at h1
  obtain ⟨hi,hv⟩:=List.getElem?_eq_some_iff.1 h1
  have:(zaz s).findIdx? (fun v=>decide (v=c))=some i:=by
   rw [List.findIdx?_eq_some_iff_getElem]
   refine ⟨hi,by simp [hv],fun j hj=>?_⟩
   have h4:=h3 j hj
   have hj':j<s.size:=by omega
   simp only [decide_eq_true_eq]
   intro e
   have h5:=(hp j hj').2 (by rw [List.getElem?_eq_getElem (by rw [zbx];exact hj'),e])
   rw [h5] at h4
   simp at h4
  rw [this]
theorem yao (s:ByteArray) (c:Int) (w:World):Calls Tryz.prog 224 #[.string s,.int .u8 c] w fun e w'=>e=.returned (.int .i64 (Go.firstIdx s c.toNat.toUInt8))∧w'=w:=by
 go_enter Tryz.func224,Tryz.ntmps224
 go_wp2
 rw [run_callFunc_extern Tryz.func256 (by kernel_rfl) (by kernel_rfl) (by kernel_rfl) (e:=Extern.BytealgIndexByte.indexByte) (by kernel_rfl),run_indexByte_string]
 simp only [Result.andThen]
 rw [Oper.upon_value]
 go_wp2
 go_ret
 exact ⟨rfl,rfl⟩
theorem zkz (s:ByteArray) (c:Nat) (hc:c<256) (w:World):Calls Tryz.prog 198 #[.string s,.int .u8 c] w fun e w'=>e=.returned (.int .i64 (zl8 (zaz s) c))∧w'=w:=by
 rw [← zr0 s c hc]
 have H:=zac (yao s c w)
 go_enter Tryz.func198,Tryz.ntmps198
 go_wp2_with (first|(go_at_call 224;refine (zaa H).mono ?_;rintro e w1 ⟨rfl,rfl⟩))
 go_ret
 exact ⟨rfl,rfl⟩
theorem zhc (x:Int) (w:World):Calls Tryz.prog 222 #[.int .i64 x] w fun e w'=>e=.returned (.bool false)∧w'=w:=by
 go_enter Tryz.func222,Tryz.ntmps222
 go_wp2
 go_ret
 exact ⟨rfl,rfl⟩
theorem yh5 (x y:Int) (w:World):Calls Tryz.prog 194 #[.int .i64 x,.int .i64 y] w fun e w'=>(∃ c:Int,e=.returned (.int .i64 c)∧(c<0↔x<y))∧w'=w:=by
 by_cases h1:x<y
 ·go_enter Tryz.func194,Tryz.ntmps194
  go_wp2_with (first|(go_at_call 222;refine (zhc _ _).mono ?_;rintro e w1 ⟨rfl,rfl⟩))
  go_ret
  exact ⟨⟨-1,rfl,by omega⟩,rfl⟩
 ·by_cases h2:y<x
  ·go_enter Tryz.func194,Tryz.ntmps194
   go_wp2_with (first|(go_at_call 222;refine (zhc _ _).mono ?_;rintro e w1 ⟨rfl,rfl⟩))
   go_ret
   exact ⟨⟨1,rfl,by omega⟩,rfl⟩
  ·go_enter Tryz.func194,Tryz.ntmps194
   go_wp2_with (first|(go_at_call 222;refine (zhc _ _).mono ?_;rintro e w1 ⟨rfl,rfl⟩))
   go_ret
   exact ⟨⟨0,rfl,by omega⟩,rfl⟩
def yk9 (x y:Int):Int:=if x<y then -1 else if y<x then 1 else 0
theorem zzf (x y:Int):yk9 x y<0↔x<y:=by unfold yk9;split <;> (try split) <;> omega
theorem zmz (x y:Int) (w:World):Calls Tryz.prog 194 #[.int .i64 x,.int .i64 y] w fun e w'=>e=.returned (.int .i64 (yk9 x y))∧w'=w:=by
 unfold yk9
 by_cases h1:x<y
 ·rw [if_pos h1]
  go_enter Tryz.func194,Tryz.ntmps194
  go_wp2_with (first|(go_at_call 222;refine (zhc _ _).mono ?_;rintro e w1 ⟨rfl,rfl⟩))
  go_ret
  exact ⟨rfl,rfl⟩
 ·rw [if_neg h1]
  by_cases h2:y<x
  ·rw [if_pos h2]
   go_enter Tryz.func194,Tryz.ntmps194
   go_wp2_with (first|(go_at_call 222;refine (zhc _ _).mono ?_;rintro e w1 ⟨rfl,rfl⟩))
   go_ret
   exact ⟨rfl,rfl⟩
  ·rw [if_neg h2]
   go_enter Tryz.func194,Tryz.ntmps194
   go_wp2_with (first|(go_at_call 222;refine (zhc _ _).mono ?_;rintro e w1 ⟨rfl,rfl⟩))
   go_ret
   exact ⟨rfl,rfl⟩
theorem yal (ob ab:Nat) (order nm:ByteArray) (pl:Int) (tv:Value) (ts:List Trm) (x y:Nat) (W:World) (ho:W.cell? ⟨ob,0,none⟩=some (.string order)) (ha:W.cell? ⟨ab,2,none⟩=some tv) (hT:zhr W tv ts) (hl:∀ t∈ts,t.1<256) (hx:x<ts.length) (hy:y<ts.length) (h3:ts.length≤3) :
  Calls Tryz.prog 197 #[.int .i64 x,.int .i64 y,.pointer (some ⟨ob,0,none⟩),.pointer (some ⟨ab,0,none⟩)] W fun e w'=>∃ c:Int,e=.returned (.int .i64 c)∧(c<0↔zl8 (zaz order) (zb4 ts x)<zl8 (zaz order) (zb4 ts y))∧Below W.heap.size W w':=by
 obtain ⟨ta,tcap,rfl,htx⟩:=hT
 obtain ⟨tb,to,rfl,c0,_⟩:=htx x hx
 obtain ⟨tb',to',e,d0,_⟩:=htx y hy
 injection e with e
 injection e with e1 e2
 subst e1 e2
 have hxl:(ts[x]?.getD (0,0)).1<256:=hl _ (by simp [hx])
 have hyl:(ts[y]?.getD (0,0)).1<256:=hl _ (by simp [hy])
 have hxz:(x:Int)<(ts.length:Int):=by omega
 have hyz:(y:Int)<(ts.length:Int):=by omega
 show Calls _ _ _ _ fun e w'=>∃ c:Int,e=.returned (.int .i64 c)∧(c<0↔zl8 (zaz order) (ts[x]?.getD (0,0)).1<zl8 (zaz order) (ts[y]?.getD (0,0)).1)∧Below W.heap.size W w'
 generalize (ts[x]?.getD (0,0)).1=lx at *
 generalize (ts[y]?.getD (0,0)).1=ly at *
 clear htx hl
 go_enter Tryz.func197,Tryz.ntmps197
 go_wp2_with fail
 go_quiet (first
  | (go_at_call_has 198 (Value.int IntKind.u8 (lx:Int));exact Calls.quiet_of_same (zkz order lx hxl _))
  | (go_at_call_has 198 (Value.int IntKind.u8 (ly:Int));exact Calls.quiet_of_same (zkz order ly hyl _))
  | (go_at_call 194;exact Calls.quiet_of_same (zmz _ _ _)))
 go_wp2
 go_ret
 exact ⟨_,rfl,zzf _ _,⟨rfl,rfl,rfl,Nat.le_refl _,fun _ _=>rfl⟩⟩
end Go.Proofs.YtoifcnidhfnapaaGreatDoor
