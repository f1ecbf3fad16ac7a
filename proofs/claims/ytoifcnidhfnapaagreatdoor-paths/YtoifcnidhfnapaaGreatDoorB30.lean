import Derived.Test.YtoifcnidhfnapaaGreatDoorB29
import Derived.Laws.BytesArg
set_option linter.unusedVariables false
set_option linter.unusedSimpArgs false
set_option maxRecDepth 100000
set_option maxHeartbeats 16000000
namespace Go.Proofs.YtoifcnidhfnapaaGreatDoor
open Go.RowKit Go.Maps Go.Sort Go.Shelf
theorem zzz (W:World) (cs:Array Value) (t:TypeId):∀ j u,cs.toList[j]? = some u→(W.alloc (.cells cs t)).cell? ((⟨W.heap.size,0,none⟩:Addr).add j)=some u:=by
 intro j u hj
 have ea:(⟨W.heap.size,0,none⟩:Addr).add j=⟨W.heap.size,j,none⟩:=by unfold Addr.add;split <;> simp_all
 rw [ea,zab (zae _ _ _ rfl)]
 rwa [Array.getElem?_toList] at hj
theorem ycb {w2:World} {base n:Nat} {v:Value} {xs:List Value} (cs:Array Value) (t e:TypeId) {size bytes:Nat} {z:Value} (hu:Tryz.prog.underlying t=some (.slice e)) (hinfo:(Tryz.prog.info? e).map (fun i=>(i.zero,i.size,i.bytes))=some (some z,size,bytes)) (hzs:z.cells.size=size) (hsz:0<size) (hcs:cs.size=size) (h1:∀ u∈cs.toList,u.oneCell'=true)
  (hrow:w2.ownsRow base e size v n xs) (hb:base≤w2.heap.size) (hl:n≤1000000) (hby:bytes≤1000000) :
  ∃ g' cap' w3,(zjy #[t,t] t #[v,.slice (some ⟨w2.heap.size,0,none⟩) 1 1]).run Tryz.prog (w2.alloc (.cells cs e))=.ok (.slice (some ⟨g',0,none⟩) (n+1) cap') w3 ∧
   w3.ownsRow base e size (.slice (some ⟨g',0,none⟩) (n+1) cap') (n+1) (xs ++ cs.toList)∧(w2.alloc (.cells cs e)).grownBy w3 v.ownBlock:=by
 obtain ⟨i,hi,hz0,hz1,hz2⟩:=info_parts hinfo
 obtain ⟨v',w',hr,h2,h3,_⟩:=run_append_own_at (P:=Tryz.prog) (w2.alloc (.cells cs e)) base t t e i _ size bytes hu hi hz0 hz1 hz2 hzs hsz v n xs (hrow.alloc _) ⟨w2.heap.size,0,none⟩ 1 1 cs.toList (by simp [hcs]) (zzz w2 cs e) h1 (by unfold maxLen;omega) (Nat.le_trans (Nat.mul_le_mul (show n+1≤1000001 by omega) hby) (by omega)) (by simp;omega)
 obtain ⟨g',cap',rfl⟩:=zgr h2
 exact ⟨g',cap',w',hr,h2,h3⟩
theorem zvj (g:Nat) (cb:Array Value) (W:World) :
  Calls Tryz.prog 192 #[.slice none 0 0,.func (.func g) #[] cb] W fun e w'=>e=.returned (.tuple #[])∧w'=W:=by
 have h1:Calls Tryz.prog 252 #[.slice none 0 0,.int .i64 0,.int .i64 0,.func (.func g) #[] cb] W fun e w'=>e=.returned (.tuple #[])∧w'=W:=by
  go_enter Tryz.func252,Tryz.ntmps252
  go_wp2
  refine wp_loop_rounds 1 ?_
  rw [rounds_succ]
  go_wp2
  go_end0
  exact ⟨rfl,rfl⟩
 have h2:Calls Tryz.prog 221 #[.slice none 0 0,.int .i64 0,.func (.func g) #[] cb] W fun e w'=>e=.returned (.tuple #[])∧w'=W:=by
  have H:=zac h1
  clear h1
  go_enter Tryz.func221,Tryz.ntmps221
  go_wp2
  refine wp_loop_rounds 1 ?_
  rw [rounds_succ]
  go_wp2_with (first|(go_at_call 252;refine (zaa H).mono ?_;rintro e w' ⟨rfl,rfl⟩))
  refine wp_loop_rounds 1 ?_
  rw [rounds_succ]
  go_wp2
  go_end0
  exact ⟨rfl,rfl⟩
 have H:=zac h2
 clear h1 h2
 go_enter Tryz.func192,Tryz.ntmps192
 go_wp2_with (first|(go_at_call 221;refine (zaa H).mono ?_;rintro e w' ⟨rfl,rfl⟩))
 go_end0
 exact ⟨rfl,rfl⟩
def zzm (xs:List Nat):ByteArray:=Go.strOfNums (xs.map fun (x:Nat)=>(x:Int))
theorem zwm {xs:List Nat} (h:∀ x∈xs,x<256):zaz (zzm xs)=xs:=by
 unfold zaz zzm
 rw [Go.strOfNums_data]
 simp only [List.map_map,Function.comp_def]
 have e:∀ x∈xs,(UInt8.ofNat ((x:Int).toNat)).toNat=id x:=by
  intro x hx
  have:=h x hx
  simp
  omega
 rw [List.map_congr_left e,List.map_id]
theorem zzq {A:List (List Trm)} (h:∀ ts∈A,∀ t∈ts,t.1<256):∀ v∈zbl A,v<256:=by
 intro v hv
 obtain ⟨ts,hts,t,ht,rfl⟩:=ze1.1 (zdm.1 hv).2
 exact h ts hts t ht
theorem zn9 (QB:Nat) (H:List (Nat×Nat)) (B:List zbb) (W:World) (hQ:zii W QB H B) (hO:zpt H B) :
  Calls Tryz.prog 150 #[.pointer (some ⟨QB,0,none⟩)] W fun e w'=>e=.returned (.string (zzm (zt0 (B.map (·.ts)))))∧Below W.heap.size W w':=by
 have hlt:∀ v∈zbl (B.map (·.ts)),v<256:=zzq fun ts hts t ht=>by
  obtain ⟨a,ha,rfl⟩:=List.mem_map.1 hts
  exact hO.tl a ha t ht
 have hvl:(zbl (B.map (·.ts))).length≤12:=by
  have h1:=zlm (B.map (·.ts)) (fun ts hts=>by obtain ⟨a,ha,rfl⟩:=List.mem_map.1 hts;exact hO.t3 a ha)
  have:=hO.b4
  simp at h1
  omega
 obtain ⟨W1,hW1⟩:∃ W1,W1=W.alloc (.cells #[.pointer (some ⟨QB,0,none⟩)] 119):=⟨_,rfl⟩
 have hb1:Below W.heap.size W W1:=by rw [hW1];exact (Below.refl _ _).alloc (Nat.le_refl _) _
 have g1:W1.heap[W.heap.size]? = some (.cells #[.pointer (some ⟨QB,0,none⟩)] 119 (0,0)):=by rw [hW1];exact zae _ _ _ rfl
 have hs1:W1.heap.size=W.heap.size+1:=by rw [hW1];simp
 have hvar:=zll QB H B W1 (hQ.below hb1) hO
 have c0:W1.cell? ⟨W.heap.size,0,none⟩=some (.pointer (some ⟨QB,0,none⟩)):=zab g1 0
 unfold zt0
 obtain ⟨vs,hvs⟩:∃ vs,vs=zbl (B.map (·.ts)):=⟨_,rfl⟩
 rw [← hvs] at hvar hlt hvl ⊢
 clear hvs
 have Hvar:=zac hvar
 have Hb1:=zac hb1
 have G1:=zac g1
 have HQ:=zac hQ
 have HO:=zac hO
 have Hlt:=zac hlt
 clear hvar hb1 g1 hQ hO hlt
 rw [hW1] at c0
 go_enter Tryz.func150,Tryz.ntmps150
 go_wp2_with fail
 rw [← hW1]
 refine (zaa Hvar).mono ?_
 rintro e w2 ⟨v,rfl,hown,hb2⟩
 have hbW:Below W.heap.size W w2:=(zaa Hb1).trans (hb2.mono (zaa Hb1).size)
 have hs2:=hb2.size
 clear c0 hW1 Hvar
 rcases hown.2 with ⟨rfl,h0⟩|⟨gb,cap,cur,rfl,hbg,hgh,hcl,hcm,hcs,htk⟩
 ·have hv0:vs=[]:=List.eq_nil_of_length_eq_zero h0
  subst hv0
  have hcv:=Go.run_convert_bytes_nil (P:=Tryz.prog) w2 157 5 Tryz.underlying157 Tryz.underlying5 0 0 9 Tryz.underlying9
  have HbW:=zac hbW
  clear hown hb2 hbW
  go_wp2_with (first|(go_at_call 192;refine (zvj _ _ _).mono ?_;rintro e w3 ⟨rfl,rfl⟩))
  go_ret
  exact ⟨rfl,zaa HbW⟩
 ·have hgl:gb<w2.heap.size:=(Array.getElem?_eq_some_iff.1 hgh).1
  have hbl:(zfo vs).length=vs.length:=by simp [zfo]
  have hR:zh7 .u8 5 0 cur vs w2 gb:=by
   refine ⟨cur,hgh,rfl,fun k hk=>?_,fun q _=>rfl⟩
   have:=congrArg (fun l:List Value=>l[k]?) htk
   simp only [Nat.mul_one] at this
   rw [List.getElem?_take_of_lt (by omega),Array.getElem?_toList] at this
   rw [Nat.zero_add,this]
   simp [zfo,hk]
  have hcmp:yhw 193 #[.pointer (some ⟨W.heap.size,0,none⟩)] .u8 (zvv (B.map (·.ts))) vs gb w2:=by
   intro W' x y hx hy hK
   have hbX:Below (W.heap.size+1) w2 W':=hK.below (by omega) (fun k hk=>by omega)
   have q0:=(hbX.block W.heap.size (by omega)).trans (zan hb2 (zaa G1))
   exact zz0 W.heap.size QB H B x y W' (zab q0 0) ((zaa HQ).below (hbW.trans (hbX.mono (by omega)))) (zaa HO) ((zaa Hlt) x hx) ((zaa Hlt) y hy)
  have hsort:=zo7 193 _ (zvv (B.map (·.ts))) gb 0 cap 5 cur vs w2 (enters_of Tryz.func193 (by kernel_rfl) rfl) hcmp hR (by omega)
  have HbW:=zac hbW
  have Hsort:=zac hsort
  clear hown hb2 hbW hsort hcmp hR htk
  go_wp2_with (first|(go_at_call 192;fail))
  refine (zaa Hsort).mono ?_
  rintro e w3 ⟨rfl,hR3,hK3⟩
  have hsl:=zs3 (zvv (B.map (·.ts))) vs
  have hcv:=Go.run_convert_bytes_arg (P:=Tryz.prog) w3 157 5 Tryz.underlying157 Tryz.underlying5 gb 0 vs.length cap ((stS (zvv (B.map (·.ts))) vs).map fun (x:Nat)=>(x:Int)) (by simp [hsl]) (fun i hi=>by
   rw [(hR3.cell (k:=i) (by omega)).1]
   simp [hsl,hi]) 9 Tryz.underlying9
  have hbF:Below W.heap.size W w3:=(zaa HbW).trans (hK3.below (by omega) (fun k hk=>by omega))
  have HbF:=zac hbF
  clear hR3 hK3 hbF hsl
  go_wp2
  go_ret
  exact ⟨rfl,zaa HbF⟩
theorem za0 {W W':World} {row:Option Nat} {base:Nat} {e:TypeId} {size:Nat} {v:Value} {n:Nat} {xs:List Value} (h:W.ownsRow base e size v n xs) (hg:W.grownBy W' row) (hx:∀ g,row=some g→∃ cs t,W.heap[g]? = some (.cells cs t (0,0))∧t≠e):W'.ownsRow base e size v n xs:=
 zem h hg fun g hg' er=>by
  obtain ⟨cs,t,h1,h2⟩:=hx g er
  obtain ⟨cur,h3⟩:=zde h hg'
  rw [h1] at h3
  injection h3 with h3
  injection h3 with _ h3
  exact h2 h3
theorem zbs {W W':World} {base:Nat} {e:TypeId} {size:Nat} {v:Value} {n:Nat} {xs:List Value} (h:W.ownsRow base e size v n xs) (hb:Below W.heap.size W W'):W'.ownsRow base e size v n xs:=
 zem (row:=none) h ⟨hb.os,hb.tape,hb.output,hb.size,fun k hk _=>hb.block k hk⟩ fun _ _ e=>by cases e
theorem zfd {W:World} {base base':Nat} {e:TypeId} {size:Nat} {v:Value} {n:Nat} {xs:List Value} (h:W.ownsRow base' e size v n xs) (hb:base≤base'):W.ownsRow base e size v n xs:=by
 refine ⟨h.1,?_⟩
 rcases h.2 with h2|⟨g,cap,cur,rfl,hg,r⟩
 ·exact .inl h2
 ·exact .inr ⟨g,cap,cur,rfl,Nat.le_trans hb hg,r⟩
theorem zfc {W W':World} {base:Nat} {e:TypeId} {size:Nat} {v:Value} {n:Nat} {xs:List Value} (h:W.ownsRow base e size v n xs) {T:Nat→Prop} (hT:∀ k,base≤k→k<W.heap.size→T k) (hk:∀ k,T k→W'.heap[k]? = W.heap[k]?):W'.ownsRow base e size v n xs:=by
 refine ⟨h.1,?_⟩
 rcases h.2 with h2|⟨g,cap,cur,rfl,hg,hgh,r⟩
 ·exact .inl h2
 ·exact .inr ⟨g,cap,cur,rfl,hg,(hk g (hT g hg (Array.getElem?_eq_some_iff.1 hgh).1)).trans hgh,r⟩
def ydl (vs:List Nat) (a:zbb):List Value:=.string a.nm :: (zf7 a.ts vs).map fun (c:Nat)=>Value.int .i64 (c:Int)
def zr9 (vs:List Nat) (B:List zbb):List Value:=B.flatMap (ydl vs)
def zzk (sv:List (Value×Value)):List Value:=sv.flatMap fun p=>[p.1,p.2]
def yb5 (W:World) (base:Nat) (nvals:List Value) (B:List zbb):Prop:=
 nvals.length=B.length∧∀ i,i<B.length→∃ v,nvals[i]? = some v∧W.ownsRow base 2 1 v (zcr (B[i]?.getD zat).ts).length (zp1 (zcr (B[i]?.getD zat).ts))
def ztn (W:World) (base:Nat) (svals:List (Value×Value)) (A:List (List Trm)) (H vs:List Nat):Prop:=
 svals.length=vs.length∧∀ i,i<vs.length→∃ u p,svals[i]? = some (u,p)∧W.ownsRow base 357 2 u (zci A (vs[i]?.getD 0)).length (ziz (zci A (vs[i]?.getD 0)))∧W.ownsRow base 3 1 p (zbq H (vs[i]?.getD 0)).length (zne (zbq H (vs[i]?.getD 0)))
theorem yb5.grown {W W':World} {row:Option Nat} {base:Nat} {nvals:List Value} {B:List zbb} (h:yb5 W base nvals B) (hg:W.grownBy W' row) (hx:∀ g,row=some g→∃ cs t,W.heap[g]? = some (.cells cs t (0,0))∧t≠2):yb5 W' base nvals B:=
 ⟨h.1,fun i hi=>by obtain ⟨v,h1,h2⟩:=h.2 i hi;exact ⟨v,h1,za0 h2 hg hx⟩⟩
theorem ztn.grown {W W':World} {row:Option Nat} {base:Nat} {svals:List (Value×Value)} {A:List (List Trm)} {H vs:List Nat} (h:ztn W base svals A H vs) (hg:W.grownBy W' row) (hx:∀ g,row=some g→∃ cs t,W.heap[g]? = some (.cells cs t (0,0))∧t≠357∧t≠3):ztn W' base svals A H vs:=
 ⟨h.1,fun i hi=>by
  obtain ⟨u,p,h1,h2,h3⟩:=h.2 i hi
  exact ⟨u,p,h1,za0 h2 hg (fun g e=>by obtain ⟨cs,t,a,b,c⟩:=hx g e;exact ⟨cs,t,a,b⟩),za0 h3 hg (fun g e=>by obtain ⟨cs,t,a,b,c⟩:=hx g e;exact ⟨cs,t,a,c⟩)⟩⟩
structure zd8 (W:World) (base PB:Nat) (H:List Nat) (A:List (List Trm)) (Bk Bn:List zbb) (vs vm:List Nat):Prop where
 at_:base≤PB
 ex:∃ kv nv sv nvals svals,W.heap[PB]? = some (.cells #[kv,nv,sv] 265 (0,0))∧W.ownsRow base 96 4 kv Bk.length (zr9 vs Bk)∧W.ownsRow base 41 1 nv Bn.length nvals∧yb5 W base nvals Bn∧W.ownsRow base 273 2 sv vm.length (zzk svals)∧ztn W base svals A H vm
theorem zd8.below {W W':World} {base PB:Nat} {H:List Nat} {A:List (List Trm)} {Bk Bn:List zbb} {vs vm:List Nat} (h:zd8 W base PB H A Bk Bn vs vm) (hb:Below W.heap.size W W'):zd8 W' base PB H A Bk Bn vs vm:=by
 obtain ⟨ha,kv,nv,sv,nvals,svals,h1,h2,h3,h4,h5,h6⟩:=h
 have hg:W.grownBy W' none:=⟨hb.os,hb.tape,hb.output,hb.size,fun k hk _=>hb.block k hk⟩
 exact ⟨ha,kv,nv,sv,nvals,svals,zan hb h1,zbs h2 hb,zbs h3 hb,h4.grown hg (fun _ e=>by cases e),zbs h5 hb,h6.grown hg (fun _ e=>by cases e)⟩
theorem zd8.agree {W W':World} {base PB:Nat} {H:List Nat} {A:List (List Trm)} {Bk Bn:List zbb} {vs vm:List Nat} (h:zd8 W base PB H A Bk Bn vs vm) {T:Nat→Prop} (hT:∀ k,base≤k→k<W.heap.size→T k) (hk:∀ k,T k→W'.heap[k]? = W.heap[k]?):zd8 W' base PB H A Bk Bn vs vm:=by
 obtain ⟨ha,kv,nv,sv,nvals,svals,h1,h2,h3,h4,h5,h6⟩:=h
 refine ⟨ha,kv,nv,sv,nvals,svals,(hk PB (hT PB ha (Array.getElem?_eq_some_iff.1 h1).1)).trans h1,zfc h2 hT hk,zfc h3 hT hk,⟨h4.1,fun i hi=>?_⟩,zfc h5 hT hk,⟨h6.1,fun i hi=>?_⟩⟩
 ·obtain ⟨v,a,b⟩:=h4.2 i hi
  exact ⟨v,a,zfc b hT hk⟩
 ·obtain ⟨u,p,a,b,c⟩:=h6.2 i hi
  exact ⟨u,p,a,zfc b hT hk,zfc c hT hk⟩
theorem zh2 {w:World} {B p:Nat} {cs:Array Value} {v:Value} {t:TypeId} (h:w.heap[B]? = some (.cells cs t (0,0))):(w.setCell ⟨B,p,none⟩ v).heap[B]? = some (.cells (cs.setIfInBounds p v) t (0,0)):=zdn h
theorem Tryz.info96:(Tryz.prog.info? 96).map (fun i=>(i.zero,i.size,i.bytes))=some (some (.agg #[.string ⟨#[]⟩,.int .i64 0,.int .i64 0,.int .i64 0]),4,40):=by kernel_rfl
theorem Tryz.info41v:(Tryz.prog.info? 41).map (fun i=>(i.zero,i.size,i.bytes))=some (some (.slice none 0 0),1,24):=by kernel_rfl
theorem Tryz.info273:(Tryz.prog.info? 273).map (fun i=>(i.zero,i.size,i.bytes))=some (some (.agg #[.slice none 0 0,.slice none 0 0]),2,48):=by kernel_rfl
theorem zd8.key {W:World} {kv nv sv:Value} {base PB:Nat} {H:List Nat} {A:List (List Trm)} {Bk Bn:List zbb} {vs vm:List Nat} (h:zd8 W base PB H A Bk Bn vs vm) (hPB:W.heap[PB]? = some (.cells #[kv,nv,sv] 265 (0,0))) (hb:base≤W.heap.size) {a:zbb} {c0 c1 c2:Nat} (hc:zf7 a.ts vs=[c0,c1,c2]) (hl:Bk.length≤100) :
  ∃ g' cap' w3,(zjy #[193,193] 193 #[kv,.slice (some ⟨W.heap.size,0,none⟩) 1 1]).run Tryz.prog (W.alloc (.cells #[.string a.nm,.int .i64 c0,.int .i64 c1,.int .i64 c2] 96))=.ok (.slice (some ⟨g',0,none⟩) (Bk.length+1) cap') w3 ∧
   w3.heap[PB]? = some (.cells #[kv,nv,sv] 265 (0,0))∧(∀ (q:Nat) (cs:Array Value) (t:TypeId),W.heap[q]? = some (.cells cs t (0,0))→t≠96→w3.heap[q]? = some (.cells cs t (0,0)))∧Below base W w3∧zd8 (w3.setCell ⟨PB,0,none⟩ (.slice (some ⟨g',0,none⟩) (Bk.length+1) cap')) base PB H A (Bk ++ [a]) Bn vs vm:=by
 obtain ⟨ha,kv',nv',sv',nvals,svals,h1,h2,h3,h4,h5,h6⟩:=h
 have eq:=hPB.symm.trans h1
 simp only [Option.some.injEq,Obj.cells.injEq,Array.mk.injEq,List.cons.injEq,and_true] at eq
 obtain ⟨rfl,rfl,rfl⟩:=eq
 obtain ⟨g',cap',w3,hap,hrow,hg⟩:=ycb (w2:=W) #[.string a.nm,.int .i64 c0,.int .i64 c1,.int .i64 c2] 193 96 Tryz.underlying193 Tryz.info96 rfl (by decide) rfl (by simp [Value.oneCell']) h2 hb (by omega) (by omega)
 obtain ⟨W2,hW2⟩:∃ W2,W2=W.alloc (.cells #[.string a.nm,.int .i64 c0,.int .i64 c1,.int .i64 c2] 96):=⟨_,rfl⟩
 rw [← hW2] at hg
 have hbA:Below W.heap.size W W2:=by rw [hW2];exact (Below.refl _ _).alloc (Nat.le_refl _) _
 have k2:=zbs h2 hbA
 have hx:∀ g,kv.ownBlock=some g→∃ cs,W2.heap[g]? = some (.cells cs 96 (0,0)):=fun g e=>zde k2 e
 have hP1:=zan hbA h1
 have hP2:w3.heap[PB]? = some (.cells #[kv,nv,sv] 265 (0,0)):=(hg.block PB (Array.getElem?_eq_some_iff.1 hP1).1 (fun e=>by
  obtain ⟨cs,h⟩:=hx PB e.symm
  rw [hP1] at h
  simp at h)).trans hP1
 have hC:=zai w3 PB 0 (.slice (some ⟨g',0,none⟩) (Bk.length+1) cap')
 have hxP:∀ g,some PB=some g→∃ cs,w3.heap[g]? = some (.cells cs 265 (0,0)):=fun g e=>by cases e;exact ⟨_,hP2⟩
 have hgn:W.grownBy W2 none:=⟨hbA.os,hbA.tape,hbA.output,hbA.size,fun k hk _=>hbA.block k hk⟩
 refine ⟨g',cap',w3,hap,hP2,fun q cs t hq ht=>(hg.block q (Nat.lt_of_lt_of_le (Array.getElem?_eq_some_iff.1 hq).1 hbA.size) (fun e=>by obtain ⟨cs',h'⟩:=hx q e.symm;rw [zan hbA hq] at h';simp at h';exact ht h'.2)).trans (zan hbA hq),?_,ha,_,nv,sv,nvals,svals,zh2 hP2,?_,?_,?_,?_,?_⟩
 ·refine (hbA.mono hb).grown hg (Nat.le_trans hb hbA.size) (fun q hq=>zb6 k2 hq)
 ·have:zr9 vs (Bk ++ [a])=zr9 vs Bk ++ [.string a.nm,.int .i64 c0,.int .i64 c1,.int .i64 c2]:=by simp [zr9,ydl,hc]
  rw [this,List.length_append]
  exact za0 hrow hC (fun g e=>by obtain ⟨cs,p⟩:=hxP g e;exact ⟨cs,_,p,by decide⟩)
 ·exact za0 (za0 (zbs h3 hbA) hg (fun g e=>by obtain ⟨cs,p⟩:=hx g e;exact ⟨cs,_,p,by decide⟩)) hC (fun g e=>by obtain ⟨cs,p⟩:=hxP g e;exact ⟨cs,_,p,by decide⟩)
 ·exact ((h4.grown hgn (fun _ e=>by cases e)).grown hg (fun g e=>by obtain ⟨cs,p⟩:=hx g e;exact ⟨cs,_,p,by decide⟩)).grown hC (fun g e=>by obtain ⟨cs,p⟩:=hxP g e;exact ⟨cs,_,p,by decide⟩)
 ·exact za0 (za0 (zbs h5 hbA) hg (fun g e=>by obtain ⟨cs,p⟩:=hx g e;exact ⟨cs,_,p,by decide⟩)) hC (fun g e=>by obtain ⟨cs,p⟩:=hxP g e;exact ⟨cs,_,p,by decide⟩)
 ·exact ((h6.grown hgn (fun _ e=>by cases e)).grown hg (fun g e=>by obtain ⟨cs,p⟩:=hx g e;exact ⟨cs,_,p,by decide,by decide⟩)).grown hC (fun g e=>by obtain ⟨cs,p⟩:=hxP g e;exact ⟨cs,_,p,by decide,by decide⟩)
theorem zd8.num {W:World} {kv nv sv:Value} {base PB:Nat} {H:List Nat} {A:List (List Trm)} {Bk Bn:List zbb} {vs vm:List Nat} (h:zd8 W base PB H A Bk Bn vs vm) (hPB:W.heap[PB]? = some (.cells #[kv,nv,sv] 265 (0,0))) (hb:base≤W.heap.size) {a:zbb} {v:Value} (hv:W.ownsRow base 2 1 v (zcr a.ts).length (zp1 (zcr a.ts))) (hl:Bn.length≤100) :
  ∃ g' cap' w3,(zjy #[107,107] 107 #[nv,.slice (some ⟨W.heap.size,0,none⟩) 1 1]).run Tryz.prog (W.alloc (.cells #[v] 41))=.ok (.slice (some ⟨g',0,none⟩) (Bn.length+1) cap') w3 ∧
   w3.heap[PB]? = some (.cells #[kv,nv,sv] 265 (0,0))∧(∀ (q:Nat) (cs:Array Value) (t:TypeId),W.heap[q]? = some (.cells cs t (0,0))→t≠41→w3.heap[q]? = some (.cells cs t (0,0)))∧Below base W w3∧zd8 (w3.setCell ⟨PB,1,none⟩ (.slice (some ⟨g',0,none⟩) (Bn.length+1) cap')) base PB H A Bk (Bn ++ [a]) vs vm:=by
 obtain ⟨ha,kv',nv',sv',nvals,svals,h1,h2,h3,h4,h5,h6⟩:=h
 have eq:=hPB.symm.trans h1
 simp only [Option.some.injEq,Obj.cells.injEq,Array.mk.injEq,List.cons.injEq,and_true] at eq
 obtain ⟨rfl,rfl,rfl⟩:=eq
 have hv1:v.oneCell'=true:=by
  obtain ⟨p,c,rfl,_⟩:=zak hv
  rfl
 obtain ⟨g',cap',w3,hap,hrow,hg⟩:=ycb (w2:=W) #[v] 107 41 Tryz.underlying107 Tryz.info41v rfl (by decide) rfl (by simpa using hv1) h3 hb (by omega) (by omega)
 obtain ⟨W2,hW2⟩:∃ W2,W2=W.alloc (.cells #[v] 41):=⟨_,rfl⟩
 rw [← hW2] at hg
 have hbA:Below W.heap.size W W2:=by rw [hW2];exact (Below.refl _ _).alloc (Nat.le_refl _) _
 have k2:=zbs h3 hbA
 have hx:∀ g,nv.ownBlock=some g→∃ cs,W2.heap[g]? = some (.cells cs 41 (0,0)):=fun g e=>zde k2 e
 have hP1:=zan hbA h1
 have hP2:w3.heap[PB]? = some (.cells #[kv,nv,sv] 265 (0,0)):=(hg.block PB (Array.getElem?_eq_some_iff.1 hP1).1 (fun e=>by
  obtain ⟨cs,h⟩:=hx PB e.symm
  rw [hP1] at h
  simp at h)).trans hP1
 have hC:=zai w3 PB 1 (.slice (some ⟨g',0,none⟩) (Bn.length+1) cap')
 have hxP:∀ g,some PB=some g→∃ cs,w3.heap[g]? = some (.cells cs 265 (0,0)):=fun g e=>by cases e;exact ⟨_,hP2⟩
 have hgn:W.grownBy W2 none:=⟨hbA.os,hbA.tape,hbA.output,hbA.size,fun k hk _=>hbA.block k hk⟩
 have h4':yb5 (w3.setCell ⟨PB,1,none⟩ (.slice (some ⟨g',0,none⟩) (Bn.length+1) cap')) base nvals Bn:=((h4.grown hgn (fun _ e=>by cases e)).grown hg (fun g e=>by obtain ⟨cs,p⟩:=hx g e;exact ⟨cs,_,p,by decide⟩)).grown hC (fun g e=>by obtain ⟨cs,p⟩:=hxP g e;exact ⟨cs,_,p,by decide⟩)
 have hv':=za0 (za0 (zbs hv hbA) hg (fun g e=>by obtain ⟨cs,p⟩:=hx g e;exact ⟨cs,_,p,by decide⟩)) hC (fun g e=>by obtain ⟨cs,p⟩:=hxP g e;exact ⟨cs,_,p,by decide⟩)
 refine ⟨g',cap',w3,hap,hP2,fun q cs t hq ht=>(hg.block q (Nat.lt_of_lt_of_le (Array.getElem?_eq_some_iff.1 hq).1 hbA.size) (fun e=>by obtain ⟨cs',h'⟩:=hx q e.symm;rw [zan hbA hq] at h';simp at h';exact ht h'.2)).trans (zan hbA hq),?_,ha,kv,_,sv,nvals ++ [v],svals,zh2 hP2,?_,?_,⟨by simp [h4.1],fun i hi=>?_⟩,?_,?_⟩
 ·refine (hbA.mono hb).grown hg (Nat.le_trans hb hbA.size) (fun q hq=>zb6 k2 hq)
 ·exact za0 (za0 (zbs h2 hbA) hg (fun g e=>by obtain ⟨cs,p⟩:=hx g e;exact ⟨cs,_,p,by decide⟩)) hC (fun g e=>by obtain ⟨cs,p⟩:=hxP g e;exact ⟨cs,_,p,by decide⟩)
 ·rw [List.length_append]
  exact za0 hrow hC (fun g e=>by obtain ⟨cs,p⟩:=hxP g e;exact ⟨cs,_,p,by decide⟩)
 ·by_cases hlt:i<Bn.length
  ·obtain ⟨u,a1,a2⟩:=h4'.2 i hlt
   have e:(Bn ++ [a])[i]?.getD zat=Bn[i]?.getD zat:=by rw [List.getElem?_append_left hlt]
   rw [e]
   exact ⟨u,by rw [List.getElem?_append_left (by rw [h4.1];exact hlt)];exact a1,a2⟩
  ·have hi':i=Bn.length:=by simp at hi;omega
   subst hi'
   have e:(Bn ++ [a])[Bn.length]?.getD zat=a:=by simp
   rw [e]
   exact ⟨v,by rw [← h4.1];simp,hv'⟩
 ·exact za0 (za0 (zbs h5 hbA) hg (fun g e=>by obtain ⟨cs,p⟩:=hx g e;exact ⟨cs,_,p,by decide⟩)) hC (fun g e=>by obtain ⟨cs,p⟩:=hxP g e;exact ⟨cs,_,p,by decide⟩)
 ·exact ((h6.grown hgn (fun _ e=>by cases e)).grown hg (fun g e=>by obtain ⟨cs,p⟩:=hx g e;exact ⟨cs,_,p,by decide,by decide⟩)).grown hC (fun g e=>by obtain ⟨cs,p⟩:=hxP g e;exact ⟨cs,_,p,by decide,by decide⟩)
theorem zd8.stp {W:World} {kv nv sv:Value} {base PB:Nat} {H:List Nat} {A:List (List Trm)} {Bk Bn:List zbb} {vs vm:List Nat} (h:zd8 W base PB H A Bk Bn vs vm) (hPB:W.heap[PB]? = some (.cells #[kv,nv,sv] 265 (0,0))) (hb:base≤W.heap.size) {x:Nat} {u p:Value} (hu:W.ownsRow base 357 2 u (zci A x).length (ziz (zci A x))) (hp:W.ownsRow base 3 1 p (zbq H x).length (zne (zbq H x))) (hl:vm.length≤100) :
  ∃ g' cap' w3,(zjy #[263,263] 263 #[sv,.slice (some ⟨W.heap.size,0,none⟩) 1 1]).run Tryz.prog (W.alloc (.cells #[u,p] 273))=.ok (.slice (some ⟨g',0,none⟩) (vm.length+1) cap') w3 ∧
   w3.heap[PB]? = some (.cells #[kv,nv,sv] 265 (0,0))∧(∀ (q:Nat) (cs:Array Value) (t:TypeId),W.heap[q]? = some (.cells cs t (0,0))→t≠273→w3.heap[q]? = some (.cells cs t (0,0)))∧Below base W w3∧zd8 (w3.setCell ⟨PB,2,none⟩ (.slice (some ⟨g',0,none⟩) (vm.length+1) cap')) base PB H A Bk Bn vs (vm ++ [x]):=by
 obtain ⟨ha,kv',nv',sv',nvals,svals,h1,h2,h3,h4,h5,h6⟩:=h
 have eq:=hPB.symm.trans h1
 simp only [Option.some.injEq,Obj.cells.injEq,Array.mk.injEq,List.cons.injEq,and_true] at eq
 obtain ⟨rfl,rfl,rfl⟩:=eq
 have hv1:u.oneCell'=true∧p.oneCell'=true:=by
  obtain ⟨q,c,rfl,_⟩:=zak hu
  obtain ⟨q',c',rfl,_⟩:=zak hp
  exact ⟨rfl,rfl⟩
 obtain ⟨g',cap',w3,hap,hrow,hg⟩:=ycb (w2:=W) #[u,p] 263 273 Tryz.underlying263 Tryz.info273 rfl (by decide) rfl (by simpa using hv1) h5 hb (by omega) (by omega)
 obtain ⟨W2,hW2⟩:∃ W2,W2=W.alloc (.cells #[u,p] 273):=⟨_,rfl⟩
 rw [← hW2] at hg
 have hbA:Below W.heap.size W W2:=by rw [hW2];exact (Below.refl _ _).alloc (Nat.le_refl _) _
 have k2:=zbs h5 hbA
 have hx:∀ g,sv.ownBlock=some g→∃ cs,W2.heap[g]? = some (.cells cs 273 (0,0)):=fun g e=>zde k2 e
 have hP1:=zan hbA h1
 have hP2:w3.heap[PB]? = some (.cells #[kv,nv,sv] 265 (0,0)):=(hg.block PB (Array.getElem?_eq_some_iff.1 hP1).1 (fun e=>by
  obtain ⟨cs,h⟩:=hx PB e.symm
  rw [hP1] at h
  simp at h)).trans hP1
 have hC:=zai w3 PB 2 (.slice (some ⟨g',0,none⟩) (vm.length+1) cap')
 have hxP:∀ g,some PB=some g→∃ cs,w3.heap[g]? = some (.cells cs 265 (0,0)):=fun g e=>by cases e;exact ⟨_,hP2⟩
 have hgn:W.grownBy W2 none:=⟨hbA.os,hbA.tape,hbA.output,hbA.size,fun k hk _=>hbA.block k hk⟩
 have h6':ztn (w3.setCell ⟨PB,2,none⟩ (.slice (some ⟨g',0,none⟩) (vm.length+1) cap')) base svals A H vm:=((h6.grown hgn (fun _ e=>by cases e)).grown hg (fun g e=>by obtain ⟨cs,p⟩:=hx g e;exact ⟨cs,_,p,by decide,by decide⟩)).grown hC (fun g e=>by obtain ⟨cs,p⟩:=hxP g e;exact ⟨cs,_,p,by decide,by decide⟩)
 have hu':=za0 (za0 (zbs hu hbA) hg (fun g e=>by obtain ⟨cs,p⟩:=hx g e;exact ⟨cs,_,p,by decide⟩)) hC (fun g e=>by obtain ⟨cs,p⟩:=hxP g e;exact ⟨cs,_,p,by decide⟩)
 have hp':=za0 (za0 (zbs hp hbA) hg (fun g e=>by obtain ⟨cs,p⟩:=hx g e;exact ⟨cs,_,p,by decide⟩)) hC (fun g e=>by obtain ⟨cs,p⟩:=hxP g e;exact ⟨cs,_,p,by decide⟩)
 refine ⟨g',cap',w3,hap,hP2,fun q cs t hq ht=>(hg.block q (Nat.lt_of_lt_of_le (Array.getElem?_eq_some_iff.1 hq).1 hbA.size) (fun e=>by obtain ⟨cs',h'⟩:=hx q e.symm;rw [zan hbA hq] at h';simp at h';exact ht h'.2)).trans (zan hbA hq),?_,ha,kv,nv,_,nvals,svals ++ [(u,p)],zh2 hP2,?_,?_,?_,?_,⟨by simp [h6.1],fun i hi=>?_⟩⟩
 ·refine (hbA.mono hb).grown hg (Nat.le_trans hb hbA.size) (fun q hq=>zb6 k2 hq)
 ·exact za0 (za0 (zbs h2 hbA) hg (fun g e=>by obtain ⟨cs,p⟩:=hx g e;exact ⟨cs,_,p,by decide⟩)) hC (fun g e=>by obtain ⟨cs,p⟩:=hxP g e;exact ⟨cs,_,p,by decide⟩)
 ·exact za0 (za0 (zbs h3 hbA) hg (fun g e=>by obtain ⟨cs,p⟩:=hx g e;exact ⟨cs,_,p,by decide⟩)) hC (fun g e=>by obtain ⟨cs,p⟩:=hxP g e;exact ⟨cs,_,p,by decide⟩)
 ·exact ((h4.grown hgn (fun _ e=>by cases e)).grown hg (fun g e=>by obtain ⟨cs,p⟩:=hx g e;exact ⟨cs,_,p,by decide⟩)).grown hC (fun g e=>by obtain ⟨cs,p⟩:=hxP g e;exact ⟨cs,_,p,by decide⟩)
 ·have:zzk (svals ++ [(u,p)])=zzk svals ++ [u,p]:=by simp [zzk]
  rw [this,List.length_append]
  exact za0 hrow hC (fun g e=>by obtain ⟨cs,p⟩:=hxP g e;exact ⟨cs,_,p,by decide⟩)
 ·by_cases hlt:i<vm.length
  ·obtain ⟨u2,p2,a1,a2,a3⟩:=h6'.2 i hlt
   have e:(vm ++ [x])[i]?.getD 0=vm[i]?.getD 0:=by rw [List.getElem?_append_left hlt]
   rw [e]
   exact ⟨u2,p2,by rw [List.getElem?_append_left (by rw [h6.1];exact hlt)];exact a1,a2,a3⟩
  ·have hi':i=vm.length:=by simp at hi;omega
   subst hi'
   have e:(vm ++ [x])[vm.length]?.getD 0=x:=by simp
   rw [e]
   exact ⟨u,p,by rw [← h6.1];simp,hu',hp'⟩
end Go.Proofs.YtoifcnidhfnapaaGreatDoor
