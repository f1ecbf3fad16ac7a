import Derived.Test.YtoifcnidhfnapaaGreatDoorB18
import Derived.Test.YtoifcnidhfnapaaGreatDoorB23
set_option linter.unusedVariables false
set_option linter.unusedSimpArgs false
set_option maxRecDepth 100000
set_option maxHeartbeats 16000000
namespace Go.Proofs.YtoifcnidhfnapaaGreatDoor
open Go.RowKit Go.Maps Go.Sort Go.Shelf
theorem zwy (w:World) (blk n:Nat) (d:Array zaj) (os:Array Obj):w.grownBy (sortWorldK zi6 4 w blk 0 n d os) (some blk):=by
 refine ⟨rfl,rfl,rfl,by simp [sortWorldK,grow,putRowK,putRow,mapBlock,Sort.ahead],fun k hk hne=>?_⟩
 have hk':k≠blk:=fun e=>hne (by rw [e])
 simp only [sortWorldK,grow,putRowK,putRow,mapBlock,Sort.ahead]
 rw [Array.getElem?_append_left (by simpa using hk),Array.getElem?_modify,if_neg (fun e=>hk' e.symm)]
theorem yeo {w:World} {blk n:Nat} {d:Array zaj} {os:Array Obj} {cur:Array Value} {t:TypeId} (h:w.heap[blk]? = some (.cells cur t (0,0))):∃ cur',(sortWorldK zi6 4 w blk 0 n d os).heap[blk]? = some (.cells cur' t (0,0)):=by
 have hl:=(Array.getElem?_eq_some_iff.1 h).1
 simp only [sortWorldK,grow,putRowK,putRow,mapBlock,Sort.ahead]
 rw [Array.getElem?_append_left (by simpa using hl),Array.getElem?_modify,if_pos rfl,h]
 exact ⟨_,rfl⟩
theorem zr3 {w:World} {base g cap:Nat} {xs:List zaj} (h:w.ownsRow base 221 4 (.slice (some ⟨g,0,none⟩) xs.length cap) xs.length (zch xs)):HoldsK zi6 4 w g 0 xs.toArray:=by
 intro j hj
 rw [size_flatK] at hj
 have hj':j<xs.length*4:=by simpa using hj
 rw [get_flatK _ _ _ _ hj,Nat.zero_add,h.cellAt j hj',h.frozenAt j]
 refine ⟨?_,rfl⟩
 have hd:j / 4<xs.length:=by omega
 have hm:j % 4<4:=Nat.mod_lt _ (by omega)
 have e:j=j / 4*4+j % 4:=by omega
 have:=znm xs (j / 4) (j % 4) hd hm
 rw [← e] at this
 rw [this]
 have e2:xs.toArray[j / 4]! = xs[j / 4]:=by simp [hd]
 have e3:xs[j / 4]?.getD zcy=xs[j / 4]:=by simp [hd]
 rw [e2,e3]
 have hl:j % 4<(zi6 xs[j / 4]).length:=by simp [zi6];omega
 simp [hl]
theorem zp4 {w:World} {g cap:Nat} {d:Array zaj} (h:HoldsK zi6 4 w g 0 d) (hE:zct w g) (hc:d.size≤cap):zb1 w (.slice (some ⟨g,0,none⟩) d.toList.length cap) d.toList:=by
 refine ⟨some ⟨g,0,none⟩,cap,by simp,by simpa using hc,fun i hi=>⟨g,0,rfl,?_⟩⟩
 have hi':i<d.size:=by simpa using hi
 have e:d.toList[i]?.getD zcy=d[i]!:=by simp [hi']
 rw [e]
 have h0:=(h.cell (i:=i) (c:=0) hi' (by omega)).1
 have h1:=(h.cell (i:=i) (c:=1) hi' (by omega)).1
 have h2:=(h.cell (i:=i) (c:=2) hi' (by omega)).1
 have h3:=(h.cell (i:=i) (c:=3) hi' (by omega)).1
 simp only [Nat.zero_add,Nat.add_zero] at h0 h1 h2 h3 ⊢
 exact ⟨h0,h1,h2,h3,hE⟩
theorem zp3 {d:Array zaj} (h:SortedIn (ltOf yh4) 0 d.size d) (hp:d.toList.Pairwise (fun a b=>a.1≠b.1)):zgh d.toList:=by
 unfold zgh
 rw [List.pairwise_iff_getElem] at hp ⊢
 intro i j hi hj hij
 have h1:=h i j (Nat.zero_le _) hij (by simpa using hj)
 have h1':ltOf zi4 d[j]!.1 d[i]!.1=false:=h1
 rw [zc0] at h1'
 have e1:d[i]! = d.toList[i]:=by simp at hi;simp [hi]
 have e2:d[j]! = d.toList[j]:=by simp at hj;simp [hj]
 rw [e1,e2] at h1'
 exact zk3 _ _ h1' (hp i j hi hj hij)
theorem ylr (p:Option Addr) (cap:Nat) (fv:Value) (w:World):Calls Tryz.prog 269 #[.slice p 0 cap,.int .i64 0,.int .i64 0,fv] w fun e w'=>e=.returned (.tuple #[])∧w'=w:=by
 go_enter Tryz.func269,Tryz.ntmps269
 go_wp2
 refine wp_loop_rounds 1 ?_
 rw [rounds_succ]
 go_wp2
 go_end0
 exact ⟨rfl,rfl⟩
theorem ylw (p:Option Addr) (cap:Nat) (lim:Int) (fv:Value) (w:World):Calls Tryz.prog 248 #[.slice p 0 cap,.int .i64 0,.int .i64 0,.int .i64 lim,fv] w fun e w'=>e=.returned (.tuple #[])∧w'=w:=by
 go_enter Tryz.func248,Tryz.ntmps248
 go_wp2
 refine wp_loop_rounds 1 ?_
 rw [rounds_succ]
 go_wp2_with (go_at_call 269;refine (ylr _ _ _ _).mono ?_;rintro e w' ⟨rfl,rfl⟩)
 (try simp only [Exit.inBlock,Exit.then])
 refine bodyPost_ret (results_none rfl _ _ _) rfl ?_
 exact ⟨rfl,rfl⟩
theorem ybk (p:Option Addr) (cap:Nat) (fv:Value) (w:World):Calls Tryz.prog 211 #[.slice p 0 cap,fv] w fun e w'=>e=.returned (.tuple #[])∧w'=w:=by
 go_enter Tryz.func211,Tryz.ntmps211
 go_wp2_with (first|(go_at_call 207;refine (zru _).mono ?_;rintro e w' ⟨rfl,rfl⟩)|(go_at_call 248;refine (ylw _ _ _ _ _).mono ?_;rintro e w' ⟨rfl,rfl⟩))
 go_end0
 exact ⟨rfl,rfl⟩
def zku (c0 c1 c2:Nat) (x:Row×Int):zaj:=(zpx c0 c1 c2 x.1,x.2)
theorem yjg (base:Nat) (v:Value) (ms:List zaj) (w:World) (h:w.ownsRow base 221 4 v ms.length (zch ms)) (hl:ms.length≤1000000000) :
  Calls Tryz.prog 211 #[v,.func (.func 125) #[] #[]] w fun e w'=>e=.returned (.tuple #[])∧∃ es,es.Perm ms∧(ms.Pairwise (fun a b=>a.1≠b.1)→zgh es)∧zcg w' v es∧w.grownBy w' v.ownBlock:=by
 rcases h.2 with ⟨rfl,h0⟩|⟨g,cap,cur,rfl,hb,hg,hle,hm,hs,ht⟩
 ·have hx0:ms=[]:=List.eq_nil_of_length_eq_zero h0
  subst hx0
  refine (ybk none 0 _ w).mono ?_
  rintro e w' ⟨rfl,rfl⟩
  exact ⟨rfl,[],List.Perm.refl _,fun _=>List.Pairwise.nil,.inl ⟨rfl,rfl⟩,⟨rfl,rfl,rfl,Nat.le_refl _,fun _ _ _=>rfl⟩⟩
 ·have hH:=zr3 h
  have hgl:g<w.heap.size:=(Array.getElem?_eq_some_iff.1 hg).1
  have hsf:=yep g cap ms.toArray w hH hgl (by simp;omega)
  have e0:(ms.toArray.size)=ms.length:=by simp
  rw [e0] at hsf
  refine hsf.mono ?_
  rintro e w' ⟨rfl,d',n,os,hp,hsrt,rfl⟩
  have hsz:d'.size=ms.length:=by have:=hp.1;simpa using this
  have hperm:d'.toList.Perm ms:=by
   have h:=hp.2.2
   have e1:(d'.extract 0 ms.length)=d':=by rw [Array.extract_eq_self_of_le (by omega)]
   have e2:(ms.toArray.extract 0 ms.length)=ms.toArray:=Array.extract_eq_self_of_le (by simp)
   rw [e1,e2] at h
   simpa using h
  have hHd:HoldsK zi6 4 (sortWorldK zi6 4 w g 0 n d' os) g 0 d':=holdsK_sortWorldK_c zi6 4 w g 0 ms.toArray d' n os hH hgl (by simpa using hsz)
  obtain ⟨cur',hc'⟩:=yeo (n:=n) (d:=d') (os:=os) hg
  refine ⟨rfl,d'.toList,hperm,fun hd=>zp3 (by rw [hsz];exact hsrt) ((hperm.pairwise_iff (fun {a b} (h:a.1≠b.1)=>h.symm)).2 hd),.inr ⟨g,0,cap,by simp [hsz],?_⟩,zwy w g n d' os⟩
  have:=zp4 (cap:=cap) hHd ⟨cur',hc'⟩ (by omega)
  simpa [hsz] using this
theorem yii {w2:World} {base:Nat} {v:Value} {ms:List zaj} (e:zaj) (hrow:w2.ownsRow base 221 4 v ms.length (zch ms)) (hb:base≤w2.heap.size) (hl:ms.length≤1000000000) :
  ∃ g' cap' w3,(zjy #[141,141] 141 #[v,.slice (some ⟨w2.heap.size,0,none⟩) 1 1]).run Tryz.prog (w2.alloc (.cells #[.int .i64 e.1.1,.int .i64 e.1.2.1,.int .i64 e.1.2.2,.int .i64 e.2] 221))=.ok (.slice (some ⟨g',0,none⟩) (ms.length+1) cap') w3 ∧
   w3.ownsRow base 221 4 (.slice (some ⟨g',0,none⟩) (ms.length+1) cap') (ms.length+1) (zch (ms ++ [e]))∧(w2.alloc (.cells #[.int .i64 e.1.1,.int .i64 e.1.2.1,.int .i64 e.1.2.2,.int .i64 e.2] 221)).grownBy w3 v.ownBlock:=by
 obtain ⟨i62,hi,hz0,hz1,hz2⟩:=info_parts Tryz.info221
 obtain ⟨v',w',hr,h2,h3,_⟩:=run_append_own_at (P:=Tryz.prog) (w2.alloc (.cells #[.int .i64 e.1.1,.int .i64 e.1.2.1,.int .i64 e.1.2.2,.int .i64 e.2] 221)) base 141 141 221 i62 _ 4 32 Tryz.underlying141 hi hz0 hz1 hz2 rfl (by decide) v ms.length (zch ms) (hrow.alloc _) ⟨w2.heap.size,0,none⟩ 1 1 (zi6 e) rfl (zi3 w2 _ _ _ _ 221) (by simp [zi6,Value.oneCell']) (by unfold maxLen;omega) (by omega) (by simp;omega)
 obtain ⟨g',cap',rfl⟩:=zgr h2
 refine ⟨g',cap',w',hr,?_,h3⟩
 have e1:zch (ms ++ [e])=zch ms ++ zi6 e:=by simp [zch]
 rw [e1]
 exact h2
theorem zcg.keepT {X:Nat→Prop} {W W':World} {v:Value} {es:List zaj} (h:zcg W v es) (hk:KeepX X W W') (hN:∀ k,X k→¬ zct W k):zcg W' v es:=by
 rcases h with h|⟨b,o,cp,h1,h2⟩
 ·exact .inl h
 ·exact .inr ⟨b,o,cp,h1,h2.keepT hk hN⟩
def yib (w:World) (c0 c1 c2:Nat) (pre:List (Row×Int)) (W:World):Prop:=
 ∃ v,Boxed W (w.heap.size+1) 141 v∧W.ownsRow w.heap.size 221 4 v pre.length (zch (pre.map (zku c0 c1 c2)))∧W.heap[w.heap.size]? = some (.cells #[.int .i64 c0,.int .i64 c1,.int .i64 c2] 94 (0,0))∧Below w.heap.size w W
theorem yib.own (w:World) (c0 c1 c2 B:Nat) (hB:w.heap.size≤B):OwnFrom B (yib w c0 c1 c2):=by
 rintro pre W W' row ⟨v,b1,ho,b2,hb⟩ hg hr
 have hno:∀ k cs t,W.heap[k]? = some (.cells cs t (0,0))→some k≠row:=fun k cs t hk e=>by
  obtain ⟨_,o,h1,h2⟩:=hr k e.symm
  rw [hk] at h1;cases h1;cases h2
 refine ⟨v,b1.kept hg (hno _ _ _ b1),?_,(hg.block _ (Array.getElem?_eq_some_iff.1 b2).1 (hno _ _ _ b2)).trans b2,hb.grown hg hb.size (fun k e=>Nat.le_trans hB (hr k e).1)⟩
 rcases ho.2 with ⟨rfl,h0⟩|⟨g',cap',cur,rfl,_,hgh,_⟩
 ·exact ho.kept hg (.inl rfl)
 ·exact ho.kept hg (.inr fun e=>hno _ _ _ hgh (by simpa [Value.ownBlock] using e))
theorem yg6 {w W w2 w3:World} {c0 c1 c2 g' cap' B:Nat} {v:Value} {pre:List (Row×Int)} {x:Row×Int} {tmp:Obj} (bS:Boxed W (w.heap.size+1) 141 v) (hrow:W.ownsRow w.heap.size 221 4 v pre.length (zch (pre.map (zku c0 c1 c2)))) (bC:W.heap[w.heap.size]? = some (.cells #[.int .i64 c0,.int .i64 c1,.int .i64 c2] 94 (0,0))) (hB:Below w.heap.size w W)
  (hb2:Below W.heap.size W w2) (hrow3:w3.ownsRow w.heap.size 221 4 (.slice (some ⟨g',0,none⟩) (pre.length+1) cap') (pre.length+1) (zch (pre.map (zku c0 c1 c2) ++ [zku c0 c1 c2 x]))) (hg3:(w2.alloc tmp).grownBy w3 v.ownBlock) :
  KeepsFrom B W (w3.setCell ⟨w.heap.size+1,0,none⟩ (.slice (some ⟨g',0,none⟩) (pre.length+1) cap'))∧zbw W (w3.setCell ⟨w.heap.size+1,0,none⟩ (.slice (some ⟨g',0,none⟩) (pre.length+1) cap'))∧yib w c0 c1 c2 (pre ++ [x]) (w3.setCell ⟨w.heap.size+1,0,none⟩ (.slice (some ⟨g',0,none⟩) (pre.length+1) cap')):=by
 have hg2:W.grownBy w2 none:=⟨hb2.os,hb2.tape,hb2.output,hb2.size,fun k hk _=>hb2.block k hk⟩
 have bS2:=bS.kept hg2 (by simp)
 have hrow2:w2.ownsRow w.heap.size 221 4 v pre.length (zch (pre.map (zku c0 c1 c2))):=by
  rcases hrow.2 with ⟨rfl,h0⟩|⟨g',cap',cur,rfl,_,hgh,_⟩
  ·exact hrow.kept hg2 (.inl rfl)
  ·exact hrow.kept hg2 (.inr (by simp [Value.ownBlock]))
 obtain ⟨hv1,hv2,hr2,hk2,hbb⟩:=bS2.appended (by decide) hrow2 (Nat.le_trans hB.size hb2.size) (by omega) hrow3 hg3
 have hC:=grownBy_setCell' w3 (w.heap.size+1) (.slice (some ⟨g',0,none⟩) (pre.length+1) cap')
 refine ⟨(KeepsFrom.of_grownBy hg2 (fun j e=>by cases e)).trans (hk2.from _),?_,?_⟩
 ·refine ((zbw.of_grown hg2 (fun j e=>by cases e)).trans (zbw.of_grown (World.grownBy_alloc w2 tmp none) (fun j e=>by cases e))).trans ((zbw.of_grown hg3 (fun j e=>?_)).trans (zbw.of_grown hC (fun j e=>?_)))
  ·rcases (hrow2.alloc tmp).2 with ⟨rfl,h0⟩|⟨g',cap',cur,rfl,_,hgh,_⟩
   ·cases e
   ·simp only [Value.ownBlock] at e
    injection e with e
    subst e
    exact ⟨_,_,_,hgh,.inr rfl⟩
  ·cases e
   exact ⟨_,_,_,hv1,.inl rfl⟩
 ·refine ⟨_,hv2,?_,?_,hB.trans ((hb2.mono hB.size).trans hbb)⟩
  ·simpa using hr2
  ·have h2:=(hb2.block _ (Array.getElem?_eq_some_iff.1 bC).1).trans bC
   have h3:w3.heap[w.heap.size]? = some (.cells #[.int .i64 c0,.int .i64 c1,.int .i64 c2] 94 (0,0)):=by
    refine (hg3.block _ (by have:=(Array.getElem?_eq_some_iff.1 h2).1;simp;omega) (fun e=>?_)).trans ((Below.heap_alloc _ _ _ (Array.getElem?_eq_some_iff.1 h2).1).trans h2)
    rcases hrow2.2 with ⟨rfl,h0⟩|⟨g',cap',cur,rfl,_,hgh,_⟩
    ·cases e
    ·simp only [Value.ownBlock] at e
     injection e with e
     subst e
     rw [h2] at hgh
     simp at hgh
   exact (hC.block _ (Array.getElem?_eq_some_iff.1 h3).1 (by simp)).trans h3
theorem zza {W w2:World} {base:Nat} {v:Value} {ms:List zaj} {n:Nat} (h:W.ownsRow base 221 4 v n (zch ms)) (hg2:W.grownBy w2 none) (hn:n=ms.length:=by simp):w2.ownsRow base 221 4 v ms.length (zch ms):=by
 subst hn
 rcases h.2 with ⟨rfl,h0⟩|⟨g',cap',cur,rfl,_,hgh,_⟩
 ·exact h.kept hg2 (.inl rfl)
 ·exact h.kept hg2 (.inr (by simp [Value.ownBlock]))
theorem yjb {w w3:World} {c0 c1 c2 g' cap':Nat} {a0 a1 a2 x1 x2 x3 xw:Int} {pre:List (Row×Int)} (hy:(a0,a1,a2)=zpx c0 c1 c2 (x1,x2,x3)) (h:w3.ownsRow w.heap.size 221 4 (.slice (some ⟨g',0,none⟩) ((pre.map (zku c0 c1 c2)).length+1) cap') ((pre.map (zku c0 c1 c2)).length+1) (zch (pre.map (zku c0 c1 c2) ++ [((a0,a1,a2),xw)]))) :
  w3.ownsRow w.heap.size 221 4 (.slice (some ⟨g',0,none⟩) (pre.length+1) cap') (pre.length+1) (zch (pre.map (zku c0 c1 c2) ++ [zku c0 c1 c2 ((x1,x2,x3),xw)])):=by
 rw [List.length_map,hy] at h
 exact h
section
attribute [local go_sem] Oper.semAt_some
attribute [local go_sem ↓] zhb
theorem zve (c0 c1 c2 gf N:Nat) (hc:ybz c0 c1 c2) (lb:Array Value) (S:List (Row×Int)→Prop) (w:World) (eg:∀ args w,(callFunc gf args).run Tryz.prog w=.ok (.enter gf args) w) (hN:N≤1000000000)
  (hseq:∀ W0,Below w.heap.size w W0→SeqStopsK Fence.wide 8 Tryz.prog gf lb zwr zbw S (fun _=>True) N W0) (hS:∀ ls,S ls→ls.length≤N) :
  CallsIn Fence.wide 9 Tryz.prog 166 #[.agg #[.int .i64 c0,.int .i64 c1,.int .i64 c2],.func (.func gf) #[] lb] w fun e w'=>∃ v ls es,e=.returned v∧S ls∧es.Perm (ls.map (zku c0 c1 c2))∧((ls.map (zku c0 c1 c2)).Pairwise (fun a b=>a.1≠b.1)→zgh es)∧zcg w' v es∧Below w.heap.size w w':=by
 refine callsIn_of_wp_marks Tryz.func166 rfl trivial ?_ rfl
 simp only [Tryz.ntmps166,List.size_toArray,List.length_cons,List.length_nil,Nat.reduceAdd,Nat.reduceSub,Array.replicate_succ,Array.replicate_zero,List.push_toArray,List.append_toArray,List.nil_append,List.cons_append]
 gi_wp2
 obtain ⟨W0,hW0⟩:∃ W0,W0=(w.alloc (.cells #[.int .i64 c0,.int .i64 c1,.int .i64 c2] 94)).alloc (.cells #[.slice none 0 0] 141):=⟨_,rfl⟩
 rw [← hW0]
 have hb0:Below w.heap.size w W0:=by rw [hW0];exact ((Below.refl _ _).alloc (Nat.le_refl _) _).alloc (by simp) _
 have hs0:W0.heap.size=w.heap.size+2:=by rw [hW0];simp
 have hI0:yib w c0 c1 c2 [] W0:=⟨_,by rw [hW0];exact zae _ _ _ (by simp),World.ownsRow_nil _ _ _ _,by rw [hW0];exact (Below.heap_alloc _ _ _ (by simp)).trans (zae _ _ _ rfl),hb0⟩
 clear hW0
 refine wpIn_rangeFunc_ownH rfl (by omega) (gf:=gf) (lb:=lb) rfl trivial eg (hseq W0 hb0) zbw.trans (fun W l o o' _ h1 h2 h3=>zbw.put W l o o' h1 h2 h3) (Below.refl _ _) (fun _=>rfl)
  (yib w c0 c1 c2)
  (fun _ _ _=>False)
  (yib.own w c0 c1 c2 _ (by omega))
  (fun _ _ _ _ _ hs _ _=>hs)
  hI0
  (fun x a' W=>∃ Bx,W.heap[Bx]? = some (.cells #[.int .i64 x.1.1,.int .i64 x.1.2.1,.int .i64 x.1.2.2] 77 (0,0)) ∧
   a'={ tmps:=#[.agg #[.int .i64 c0,.int .i64 c1,.int .i64 c2],.func (.func gf) #[] lb,.pointer (some ⟨w.heap.size,0,none⟩),undef,.slice none 0 0,.pointer (some ⟨w.heap.size+1,0,none⟩),.pointer (some ⟨Bx,0,none⟩),.int .i64 x.2,.func (.func gf) #[] lb,.agg #[.int .i64 x.1.1,.int .i64 x.1.2.1,.int .i64 x.1.2.2],.int .i64 x.2,undef,undef,undef,undef,undef,undef,undef,undef,undef,undef,undef],defers:=[] })
  (fun x a' _ X Y row hs hg hr=>by
   obtain ⟨Bx,h2,h3⟩:=hs
   refine ⟨Bx,(hg.block Bx (Array.getElem?_eq_some_iff.1 h2).1 (fun e=>?_)).trans h2,h3⟩
   obtain ⟨_,o,ho,hc⟩:=hr Bx e.symm
   rw [h2] at ho
   cases ho
   cases hc)
  ?assign ?body ?done ?stop
 case assign =>
  rintro l pre x W K hI hK
  dsimp only [zwr]
  gi_wp2
  refine hK _ _ ((KeepsOthers.alloc _ _).from _) (zbw.of_grown (World.grownBy_alloc _ _ none) (fun j e=>by cases e)) ?_ ⟨W.heap.size,zae _ _ _ rfl,rfl⟩
  exact (yib.own w c0 c1 c2 _ (Nat.le_refl _)).alloc _ hI
 case body =>
  rintro l pre x a' W hl ⟨r,hr⟩ ⟨v,bS,hrow,bC,hB⟩ ⟨Bx,hX,rfl⟩ hlt
  obtain ⟨⟨x1,x2,x3⟩,xw⟩:=x
  dsimp only at hX ⊢
  have x0':W.cell? ⟨Bx,0,none⟩=some (.int .i64 x1):=zab hX 0
  have x1':W.cell? ⟨Bx,1,none⟩=some (.int .i64 x2):=zab hX 1
  have x2':W.cell? ⟨Bx,2,none⟩=some (.int .i64 x3):=zab hX 2
  have k0:W.cell? ⟨w.heap.size,0,none⟩=some (.int .i64 c0):=zab bC 0
  have k1:W.cell? ⟨w.heap.size,1,none⟩=some (.int .i64 c1):=zab bC 1
  have k2:W.cell? ⟨w.heap.size,2,none⟩=some (.int .i64 c2):=zab bC 2
  have cS:=bS.cell
  have HbS:=zac bS
  have Hrow:=zac hrow
  have HbC:=zac bC
  have HB:=zac hB
  obtain ⟨y,hy⟩:∃ y,y=zpx c0 c1 c2 (x1,x2,x3):=⟨_,rfl⟩
  have harr:=zwi c0 c1 c2 hc (x1,x2,x3) W.drew
  rw [← hy] at harr
  obtain ⟨a0,a1,a2⟩:=y
  unfold r3C at harr
  dsimp only at harr
  have Harr:=zac harr
  have Hy:=zac hy
  have hpl:pre.length≤1000000000:=by omega
  clear bS hrow bC hB hX harr hy
  gi_wp2_with fail
  gi_region_with (first
   | (refine ⟨trivial,?_⟩;gi_at_call 210;refine (show CallsIn Fence.wide _ _ _ _ _ _ from (callsIn_wide.2 (zaa Harr))).mono ?_;rintro e w2 ⟨rfl,hb2⟩;have hg2:W.grownBy w2 none:=⟨hb2.os,hb2.tape,hb2.output,hb2.size,fun k hk _=>hb2.block k hk⟩;have bS2:=(zaa HbS).kept hg2 (by simp);have cS0:=bS2.cell;have cS2:=(bS2.alloc (.cells #[.int .i64 a0,.int .i64 a1,.int .i64 a2,.int .i64 xw] 221)).cell;obtain ⟨g',cap',w3,hA,hrow3,hg3⟩:=yii (w2:=w2) ((a0,a1,a2),xw) (zza (zaa Hrow) hg2) (Nat.le_trans (zaa HB).size hb2.size) (by simpa using hpl);have bS3:=(bS2.alloc (.cells #[.int .i64 a0,.int .i64 a1,.int .i64 a2,.int .i64 xw] 221)).kept hg3 ((bS2.alloc (.cells #[.int .i64 a0,.int .i64 a1,.int .i64 a2,.int .i64 xw] 221)).not_row (by decide) ((zza (zaa Hrow) hg2).alloc _));have hc3:=bS3.cell;have hf3:=bS3.frozen;simp only [List.length_map] at hA))
  all_goals exact yg6 (x:=((x1,x2,x3),xw)) (zaa HbS) (zaa Hrow) (zaa HbC) (zaa HB) ⟨hg2.os,hg2.tape,hg2.output,hg2.size,fun k hk=>hg2.block k hk (by simp)⟩ (yjb (zaa Hy) hrow3) hg3
 case done =>
  rintro Dk ls W hD hSl ⟨v,bS,hrow,bC,hB⟩ hK
  have hlen:=hS ls hSl
  have cS:=bS.cell
  have hml:(ls.map (zku c0 c1 c2)).length=ls.length:=by simp
  have hsort:=yjg w.heap.size v (ls.map (zku c0 c1 c2)) W (by rw [hml];exact hrow) (by rw [hml];omega)
  have hno:v.ownBlock≠some Dk:=by
   rcases hrow.2 with ⟨rfl,h0⟩|⟨g',cap',cur,rfl,_,hgh,_⟩
   ·simp [Value.ownBlock]
   ·intro e
    simp only [Value.ownBlock] at e
    injection e with e
    subst e
    rw [hK] at hgh
    cases hgh
  have hvb:∀ g,v.ownBlock=some g→w.heap.size≤g:=by
   rcases hrow.2 with ⟨rfl,h0⟩|⟨g',cap',cur,rfl,hbb,hgh,_⟩
   ·intro g e;cases e
   ·intro g e
    simp only [Value.ownBlock] at e
    injection e with e
    omega
  have hnr:=bS.not_row (by decide) hrow
  have Hsort:=zac hsort
  have HbS:=zac bS
  have HB:=zac hB
  clear hsort bS hrow bC hB hI0
  gi_wp2_with (first
   | (refine ⟨trivial,?_⟩;gi_at_call 211;refine (callsIn_wide.2 (zaa Hsort)).mono ?_;rintro e w5 ⟨rfl,es,hp,hri,hbt,hg5⟩;have cS5:=((zaa HbS).kept hg5 hnr).cell))
  have hK5:w5.heap[Dk]? = some (.deferred (some [])):=(hg5.block Dk (Array.getElem?_eq_some_iff.1 hK).1 (fun e=>hno e.symm)).trans hK
  refine ⟨by simp,.inl ⟨_,_,rfl,run_takeDeferred hK5,?_⟩⟩
  refine ⟨_,results_tmp rfl _ _ _,v,ls,es,rfl,hSl,hp,hri,?_,?_⟩
  ·have hpg:=grownBy_putObj' w5 Dk (.deferred none)
   refine hbt.keepT (X:=fun q=>q=Dk) ⟨hpg.os,hpg.tape,hpg.output,hpg.size,fun q hq hx=>hpg.block q hq (fun e=>hx (by injection e))⟩ (fun q hq=>?_)
   subst hq
   rintro ⟨cs,hcs⟩
   rw [hK5] at hcs
   cases hcs
  ·have hB5:Below w.heap.size w w5:=(zaa HB).grown hg5 (zaa HB).size (fun k e=>hvb k e)
   exact hB5.trans (belowK_b (w:=w) (Nat.le_refl _) w5 Dk _ _ (by omega) hK5 rfl rfl)
 case stop =>
  rintro D c pre W _ _ h _
  exact h.elim
end
theorem yap (n:Nat) (l Bm:Nat) (J:List (Row×Int)→World→Prop) (W:World) (hJ:AbidesFrom W.heap.size J) (hm:W.cell? ⟨Bm,0,none⟩=some (.map none)) (h0:J [] W) :
  CallsIn Fence.wide n Tryz.prog 212 #[.func (.yield l) #[] #[],.pointer (some ⟨Bm,0,none⟩)] W fun e W'=>(∃ v,e=.returned v)∧J [] W':=by
 refine callsIn_of_wp Tryz.func212 rfl trivial ?_ rfl
 simp only [Tryz.ntmps212,List.size_toArray,List.length_cons,List.length_nil,Nat.reduceAdd,Nat.reduceSub,Array.replicate_succ,Array.replicate_zero,List.push_toArray,List.append_toArray,List.nil_append,List.cons_append]
 have hrg:=run_range_nilMap (P:=Tryz.prog) W 127 77 2 Tryz.underlying127
 have hnx:∀ ty,(Instr.next (.pointer (some ⟨W.heap.size,0,none⟩)) false ty).run Tryz.prog (W.alloc (.mapIter none 0 #[] 0))=_:=fun ty=>run_next_nilMap _ ty 0 0 #[]
 gi_wp2
 refine wpIn_loop_rounds 1 ?_
 rw [roundsIn_succ]
 gi_wp2
 go_end0
 exact ⟨⟨_,rfl⟩,hJ [] W _ none h0 (World.grownBy_alloc W _ none) (fun r e=>by cases e)⟩
def zzr (W:World) (v:Value) (n:Nat) (f:Row→Int):Prop:=(v=.map none∧∀ r,f r=0)∨∃ b,v=.map (some b)∧zfk W b n f
structure zkq (f:Row→Int) (xs:List Row):Prop where
 wf:∀ x∈xs,zaw x
 apart:xs.Pairwise (·≠·)
 mem:∀ r,zaw r→(r∈xs↔f r≠0)
theorem zxe (o:Option Nat) (w:World):Calls Tryz.prog 167 #[.map o] w fun e w'=>e=.returned (.func (.func 212) #[] #[.pointer (some ⟨w.heap.size,0,none⟩)])∧w'=w.alloc (.cells #[.map o] 127):=by
 go_enter Tryz.func167,Tryz.ntmps167
 go_wp2
 go_ret
 exact ⟨rfl,rfl⟩
structure zm9 (c0 c1 c2:Nat):Prop extends ybz c0 c1 c2 where
 d01:c0≠c1
 d02:c0≠c2
 d12:c1≠c2
theorem yfy {c0 c1 c2:Nat} (h:zm9 c0 c1 c2) {x y:Row} (e:zpx c0 c1 c2 x=zpx c0 c1 c2 y):x=y:=by
 obtain ⟨⟨h0,h1,h2⟩,d1,d2,d3⟩:=h
 obtain ⟨x0,x1,x2⟩:=x
 obtain ⟨y0,y1,y2⟩:=y
 unfold zpx at e
 have e0:=congrArg (fun q:Row=>q.1) e
 have e1:=congrArg (fun q:Row=>q.2.1) e
 have e2:=congrArg (fun q:Row=>q.2.2) e
 dsimp only at e0 e1 e2
 rcases (by omega:c0=0∨c0=1∨c0=2) with rfl|rfl|rfl <;> rcases (by omega:c1=0∨c1=1∨c1=2) with rfl|rfl|rfl <;> rcases (by omega:c2=0∨c2=1∨c2=2) with rfl|rfl|rfl <;> first
  | exact absurd rfl d1
  | exact absurd rfl d2
  | exact absurd rfl d3
  | (simp only [zal] at e0 e1 e2;rw [e0,e1,e2])
theorem zrw {r:Row} (h:zaw r) (c:Nat):wfI (zal r c):=by
 obtain ⟨h0,h1,h2⟩:=h
 unfold zal
 split <;> assumption
theorem yik {c0 c1 c2:Nat} {r:Row} (h:zaw r):zaw (zpx c0 c1 c2 r):=⟨zrw h _,zrw h _,zrw h _⟩
structure zrk (c0 c1 c2:Nat) (f:Row→Int) (es:List zaj):Prop where
 rows:∃ xs,zkq f xs∧es.Perm ((za6 f xs).map (zku c0 c1 c2))
 rise:zgh es
 wf:∀ e∈es,zaw e.1
theorem zqe {c0 c1 c2:Nat} (hc:zm9 c0 c1 c2) {f:Row→Int} {xs:List Row} {es:List zaj} (hx:zkq f xs) (hp:es.Perm ((za6 f xs).map (zku c0 c1 c2))) (hr:((za6 f xs).map (zku c0 c1 c2)).Pairwise (fun a b=>a.1≠b.1)→zgh es):zrk c0 c1 c2 f es:=by
 refine ⟨⟨xs,hx,hp⟩,hr ?_,fun e he=>?_⟩
 ·unfold za6
  rw [List.map_map,List.pairwise_map]
  exact hx.apart.imp fun {a b} h e=>h (yfy hc e)
 ·have:=hp.mem_iff.1 he
  unfold za6 at this
  rw [List.map_map,List.mem_map] at this
  obtain ⟨x,h1,rfl⟩:=this
  exact yik (hx.wf x h1)
theorem zs0 {D:DataW Unit} {f:Row→Int} {xs:List Row} (hr:Rep D f) (h:zcu D (fun _=>false) xs):zkq f xs:=
 ⟨h.wf,h.apart,fun r hw=>by rw [h.mem r hw,← hr.has_ r hw];simp⟩
def zwd (f:Row→Int) (N:Nat) (ls:List (Row×Int)):Prop:=∃ xs,zkq f xs∧ls=za6 f xs∧xs.length≤N
theorem ygu {w:World} {Bm n N:Nat} {v:Value} {f:Row→Int} (hm:w.heap[Bm]? = some (.cells #[v] 127 (0,0))) (h:zzr w v n f) (hn:n≤N):∀ W0,Below w.heap.size w W0→SeqStopsK Fence.wide 8 Tryz.prog 212 #[.pointer (some ⟨Bm,0,none⟩)] zwr zbw (zwd f N) (fun _=>True) N W0:=by
 intro W0 hb0 l J Jx W hW hJ _ hY h0
 have hbW:Below w.heap.size w W:=hb0.trans (hW.mono hb0.size)
 have hmW:W.cell? ⟨Bm,0,none⟩=some v:=zab ((hbW.block Bm (Array.getElem?_eq_some_iff.1 hm).1).trans hm) 0
 rcases h with ⟨rfl,hf⟩|⟨b,rfl,D,hown,hrep⟩
 ·refine (yap 8 l Bm J W hJ hmW h0).mono ?_
  rintro e W' ⟨he,hj⟩
  exact ⟨he,.inl ⟨[],⟨[],⟨by simp,List.Pairwise.nil,fun r hr=>by simp [hf r]⟩,rfl,by simp⟩,hj⟩⟩
 ·have hsD:Maps.size D≤n:=hown.size_le
  have hownW:W.ownsMap Tryz.prog 77 (plainElem Tryz.prog 2) b n D:=zau hown (hbW.block b hown.lt)
  refine (yiy 8 (by omega) l Bm b n D f hrep J Jx (fun pre x W1 hj hl=>hY pre x W1 hj (by omega)) W hJ hmW hownW h0).mono ?_
  rintro e W' ⟨he,hor⟩
  refine ⟨he,?_⟩
  rcases hor with ⟨ls,⟨xs,hk,rfl⟩,hj⟩|h
  ·refine .inl ⟨_,⟨xs,zs0 hrep hk,rfl,?_⟩,hj⟩
   have:=zco (hown.tidy zft) hk.wf hk.apart (fun x hx=>((hk.mem x (hk.wf x hx)).1 hx).1)
   omega
  ·exact .inr h
theorem zcg.form {W:World} {v:Value} {es:List zaj} (h:zcg W v es):∃ a cap,v=.slice a es.length cap:=by
 rcases h with ⟨rfl,rfl⟩|⟨b,o,cp,rfl,_⟩
 ·exact ⟨none,0,rfl⟩
 ·exact ⟨_,cp,rfl⟩
theorem zan {a b:World} {k:Nat} {o:Obj} (h:Below a.heap.size a b) (hx:a.heap[k]? = some o):b.heap[k]? = some o:=(h.block k (Array.getElem?_eq_some_iff.1 hx).1).trans hx
theorem yck {W W1 w5:World} {XB c0 c1 c2 n vcap:Nat} {va:Option Addr} {rv bv:Value} {f:Row→Int} {rs:List (List zaj)} {es':List zaj} {ls:List (Row×Int)} {vals:List Value} {ob:Obj} (hc:zm9 c0 c1 c2) (hB:W.heap[XB]? = some (.cells #[.int .i64 c0,.int .i64 c1,.int .i64 c2,rv,bv] 144 (0,0))) (hb1:Below W.heap.size W W1) (hW1:W1=(W.alloc ob).drew)
  (hown:W.ownsRow 0 141 1 rv vals.length vals) (hruns:zij W vals rs) (hS:zwd f n ls) (hp:es'.Perm (ls.map (zku c0 c1 c2))) (hri:(ls.map (zku c0 c1 c2)).Pairwise (fun a b=>a.1≠b.1)→zgh es') (hbt:zcg w5 (.slice va es'.length vcap) es') (hb5:Below (W.alloc ob).drew.heap.size (W.alloc ob).drew w5) :
  Ending.returned (.tuple #[])=.returned (.tuple #[])∧∃ es2,znb (w5.setCell ⟨XB,4,none⟩ (.slice va es'.length vcap)) XB (.int .i64 c0) (.int .i64 c1) (.int .i64 c2) rv rs es2∧zrk c0 c1 c2 f es2∧es2.length≤n∧KeepX (fun k=>k=XB) W (w5.setCell ⟨XB,4,none⟩ (.slice va es'.length vcap)):=by
 rw [← hW1] at hb5
 obtain ⟨xs,hx,rfl,hl⟩:=hS
 have hbW:Below W.heap.size W w5:=hb1.trans (hb5.mono hb1.size)
 have hB5:=zan hbW hB
 have hC:=zai w5 XB 4 (.slice va es'.length vcap)
 have hK5:KeepX (fun k=>k=XB) w5 (w5.setCell ⟨XB,4,none⟩ (.slice va es'.length vcap)):=⟨hC.os,hC.tape,hC.output,hC.size,fun q hq hx=>hC.block q hq (fun e=>hx (by injection e))⟩
 have hnE:∀ k,k=XB→¬ zct w5 k:=by
  rintro k rfl ⟨cs,hcs⟩
  rw [hB5] at hcs
  simp at hcs
 have hlen:es'.length≤n:=by
  have:=hp.length_eq
  simp [za6] at this
  omega
 have hown5:w5.ownsRow 0 141 1 rv vals.length vals:=by
  obtain ⟨p,c,rfl,_⟩:=zak hown
  exact hown.kept (row:=none) ⟨hbW.os,hbW.tape,hbW.output,hbW.size,fun q hq _=>hbW.block q hq⟩ (by cases p with|none=>exact .inl rfl|some x=>exact .inr (by simp [Value.ownBlock]))
 refine ⟨rfl,es',⟨⟨_,zju hB5,hbt.keepT hK5 hnE⟩,vals,hown5.kept hC (.inr (zmi hown5 hB5)),(hruns.keepT (X:=fun _=>False) (KeepX.ofBelow hbW) (fun _ h=>h.elim)).keepT hK5 hnE⟩,zqe hc hx hp hri,hlen,(KeepX.ofBelow hbW).trans hK5⟩
section
attribute [local go_sem] Oper.semAt_some
theorem ycj (XB c0 c1 c2 n:Nat) (hc:zm9 c0 c1 c2) (rv:Value) (rs:List (List zaj)) (es:List zaj) (o:Option Nat) (f:Row→Int) (W:World) (hX:znb W XB (.int .i64 c0) (.int .i64 c1) (.int .i64 c2) rv rs es) (hM:zzr W (.map o) n f) (hn:n≤1000000000) :
  Calls Tryz.prog 121 #[.pointer (some ⟨XB,0,none⟩),.map o] W fun e w'=>e=.returned (.tuple #[])∧∃ es',znb w' XB (.int .i64 c0) (.int .i64 c1) (.int .i64 c2) rv rs es'∧zrk c0 c1 c2 f es'∧es'.length≤n∧KeepX (fun k=>k=XB) W w':=by
 obtain ⟨bv,hB,hbat⟩:=hX.blk
 obtain ⟨vals,hown,hruns⟩:=hX.own
 have hBl:XB<W.heap.size:=(Array.getElem?_eq_some_iff.1 hB).1
 have k0:W.cell? ⟨XB,0,none⟩=some (.int .i64 c0):=zab hB 0
 have k1:W.cell? ⟨XB,1,none⟩=some (.int .i64 c1):=zab hB 1
 have k2:W.cell? ⟨XB,2,none⟩=some (.int .i64 c2):=zab hB 2
 obtain ⟨W1,hW1⟩:∃ W1,W1=(W.alloc (.cells #[.map o] 127)).drew:=⟨_,rfl⟩
 have hb1:Below W.heap.size W W1:=by rw [hW1];exact ((Below.refl _ W).alloc (Nat.le_refl _) (.cells #[.map o] 127)).trans (zav _ _)
 have hB1:=(hb1.block XB hBl).trans hB
 have j0:W1.cell? ⟨XB,0,none⟩=some (.int .i64 c0):=zab hB1 0
 have j1:W1.cell? ⟨XB,1,none⟩=some (.int .i64 c1):=zab hB1 1
 have j2:W1.cell? ⟨XB,2,none⟩=some (.int .i64 c2):=zab hB1 2
 have hM1:zzr W1 (.map o) n f:=by
  rcases hM with h|⟨b,e,D,h1,h2⟩
  ·exact .inl h
  ·exact .inr ⟨b,e,D,zau h1 (hb1.block b h1.lt),h2⟩
 have hm1:W1.heap[W.heap.size]? = some (.cells #[.map o] 127 (0,0)):=by rw [hW1];exact zae _ _ _ rfl
 have hrun:=zve c0 c1 c2 212 n hc.toybz #[.pointer (some ⟨W.heap.size,0,none⟩)] (zwd f n) W1 (enters_of Tryz.func212 (by kernel_rfl) rfl) hn (ygu hm1 hM1 (Nat.le_refl _)) (fun ls ⟨xs,_,e,hl⟩=>by rw [e];simpa [za6] using hl)
 rw [hW1] at hrun
 have Hrun:=zac (zn5 (m':=8) hrun)
 have Hall:=zac (zxe o W.drew)
 have Hb1:=zac hb1
 rw [hW1] at hB1
 have HB1:=zac hB1
 have Hown:=zac hown
 have Hruns:=zac hruns
 have HB:=zac hB
 rw [hW1] at j0 j1 j2
 have HW1:=zac hW1
 clear hrun hb1 hB1 hown hruns hB hbat hM hM1 hm1 hX
 refine (callsIn_wide (n:=9)).1 (callsIn_of_wp Tryz.func121 rfl trivial ?_ rfl)
 simp only [Tryz.ntmps121,List.size_toArray,List.length_cons,List.length_nil,Nat.reduceAdd,Nat.reduceSub,Array.replicate_succ,Array.replicate_zero,List.push_toArray,List.append_toArray,List.nil_append,List.cons_append]
 gi_wp2_with fail
 gi_region_with (first
  | (refine ⟨trivial,?_⟩;gi_at_call 167;refine (show CallsIn Fence.wide _ _ _ _ _ _ from (callsIn_wide.2 (zaa Hall))).mono ?_;rintro e w1 ⟨rfl,hw1⟩;replace hw1:w1=(W.alloc (.cells #[.map o] 127)).drew:=hw1;rw [hw1])
  | (refine ⟨trivial,?_⟩;gi_at_call 166;refine (zaa Hrun).mono ?_;rintro e w5 ⟨v,ls,es',rfl,hS,hp,hri,hbt,hb5⟩;obtain ⟨va,vcap,rfl⟩:=hbt.form;have hB5:=zan hb5 (zaa HB1);have f5:w5.frozen? ⟨XB,4,none⟩=false:=zad hB5 4;have c5:w5.cell? ⟨XB,4,none⟩=some bv:=zab hB5 4))
 all_goals
  go_end0
  exact yck hc (zaa HB) (zaa Hb1) (zaa HW1) (zaa Hown) (zaa Hruns) hS hp hri hbt hb5
end
end Go.Proofs.YtoifcnidhfnapaaGreatDoor
