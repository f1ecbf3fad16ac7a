import Derived.Test.YtoifcnidhfnapaaGreatDoorB32
import Derived.Deep.CutRange
set_option linter.unusedVariables false
set_option linter.unusedSimpArgs false
set_option maxRecDepth 100000
set_option maxHeartbeats 16000000
namespace Go.Proofs.YtoifcnidhfnapaaGreatDoor
open Go.RowKit Go.Maps Go.Sort Go.Shelf
theorem zq7 {f:Row→Int} {xs ys:List Row} (h:zkq f xs) (k:zkq f ys):xs.Perm ys:=
 (List.perm_ext_iff_of_nodup h.apart k.apart).2 fun r=>⟨fun hr=>(k.mem r (h.wf r hr)).2 ((h.mem r (h.wf r hr)).1 hr),fun hr=>(h.mem r (k.wf r hr)).2 ((k.mem r (k.wf r hr)).1 hr)⟩
theorem zv6.eqv {W:World} {N:Nat} {f:Row→Int} {k:zg2} {x:zmr} {es:List zaj} (h:zv6 W N f k x es) {l:List zaj} (hl:zpu f l):Eqv x.rs.flatten (l.map (zku k.c0 k.c1 k.c2)):=by
 obtain ⟨xs,hx,he⟩:=h.arr
 obtain ⟨ys,hy,rfl⟩:=hl
 exact he.trans (Eqv.of_perm (((zq7 hx hy).map _).map _))
theorem zv6.rows {W:World} {N:Nat} {f:Row→Int} {k:zg2} {x:zmr} {es:List zaj} (h:zv6 W N f k x es):∃ l,zpu f l:=by
 obtain ⟨xs,hx,he⟩:=h.arr
 exact ⟨_,xs,hx,rfl⟩
theorem ziy (rs:List (List zaj)):rs.flatten.length=ze6 rs:=by simp [ze6,List.length_flatten]
theorem zjw.srcOK {rs:List (List zaj)} (h:zjw rs) {N:Nat} (ht:ze6 rs≤N) (hN:N≤100000000):zcm 3 ⟨rs,0⟩ where
 cols:=by show 0+3≤3;omega
 lex:=fun r hr=>(h.rise r hr).lex
 full:=h.full
 len:=fun r hr=>by have:=zs7 rs r hr;omega
 cnt:=by have:=zli rs h.full;show rs.length≤_;omega
theorem ylu {A:List (List Trm)} {H vs:List Nat} (hO:zv7 A vs) (h3:∀ ts∈A,ts.length≤3) {i:Nat} (hi:i<A.length):zk5 (vs.map (zfy A H)) i+(((A.map zcr)[i]?.getD []).length)≤3:=by
 have hm:A[i]?.getD []∈A:=by simp [hi]
 have h1:=yd0 A H i hi vs
 have h2:((A.map zcr)[i]?.getD []).length=(zam (A[i]?.getD []) 0).length:=by
  rw [show (A.map zcr)[i]?.getD []=zcr (A[i]?.getD []) by simp [hi],zoy]
 have h4:=zkw (A[i]?.getD []) vs
 have h5:=(zqm (ts:=A[i]?.getD []) hO.nd hO.nz (hO.all i hi)).length_eq
 rw [List.length_range] at h5
 have h6:=h3 _ hm
 omega
theorem yed {A:List (List Trm)} {H vs:List Nat} (hO:zv7 A vs) (h3:∀ ts∈A,ts.length≤3) {S:Nat→Src} {N:Nat} (hN:N≤100000000) (hS:∀ i,i<A.length→(S i).c=0∧zjw (S i).rs∧ze6 (S i).rs≤N) (hS0:∀ i,A.length≤i→(S i).rs=[]):POK A.length (A.map zcr) (vs.map (zfy A H)) S where
 ok:=fun i hi=>by
  obtain ⟨hc,hg,ht⟩:=hS i hi
  have h:=(hg.srcOK ht hN).down (ylu (H:=H) hO h3 hi)
  have e:S i=⟨(S i).rs,0⟩:=by rw [← hc]
  rw [e]
  exact h
 full:=fun i _ r hr=>by
  rcases Nat.lt_or_ge i A.length with hi|hi
  ·exact (hS i hi).2.1.full r hr
  ·rw [hS0 i hi] at hr;cases hr
 wf:=fun i hi e he=>by
  unfold zcn at he
  obtain ⟨r,hr,he⟩:=List.mem_flatten.1 he
  exact (hS i hi).2.1.wf r hr e he
 small:=fun i hi=>by
  unfold zcn
  rw [ziy]
  have:=(hS i hi).2.2
  omega
theorem zy7 {f:Nat→Nat} {M:Nat} (hM:1≤M):∀ (n:Nat),(∀ i,i<n→f i≤M)→znf f n≤M ^ n
 | 0,_=>Nat.le_refl _
 | n+1,h=>by
  rw [Nat.pow_succ]
  exact Nat.mul_le_mul (zy7 hM n fun i hi=>h i (by omega)) (h n (by omega))
theorem yey {na:Nat} {nss:List (List Int)} {S:Nat→Src} {sts:List Stp} (hP:POK na nss sts S) (hl:nss.length=na) (h4:na≤4) {M:Nat} (hM:1≤M) (hS:∀ i,i<na→ze6 (S i).rs≤M):zmn na (zjq nss S nss.length)≤M ^ 4:=by
 have h1:zmn na (zjq nss S nss.length)≤M ^ na:=by
  unfold zmn
  refine zy7 hM na fun i hi=>?_
  unfold zcn
  rw [zgx,if_pos (by omega),zhh _ (hP.ok i hi)]
  refine Nat.le_trans (List.length_filter_le _ _) ?_
  rw [ziy]
  exact hS i hi
 exact Nat.le_trans h1 (Nat.pow_le_pow_right hM h4)
theorem zon {vs:List Nat} {a:zbb} (h3:a.ts.length≤3) (hn:vs.Nodup) (h0:∀ v∈vs,v≠0) (hall:∀ j,j<a.ts.length→zb4 a.ts j≠0→zb4 a.ts j∈vs):zf7 a.ts vs=[(zhp vs a).c0,(zhp vs a).c1,(zhp vs a).c2]∧zm9 (zhp vs a).c0 (zhp vs a).c1 (zhp vs a).c2:=by
 obtain ⟨c0,c1,c2,h,hc⟩:=zof h3 hn h0 hall
 unfold zhp
 rw [h]
 exact ⟨rfl,hc⟩
theorem ygi {st:St} {H:List (Nat×Nat)} {B:List zbb} {vs:List Nat} (hF:zdq st H B) (hp:vs.Perm (zbl (B.map (·.ts)))) {S:Nat→Src} {W:World} {N:Nat} (hN:N≤100000000)
  (hS:∀ i,i<B.length→∃ R x es,st (B[i]?.getD zat).nm=some R∧zv6 W N R.f (zhp vs (B[i]?.getD zat)) x es∧S i=⟨x.rs,0⟩) (hS0:∀ i,B.length≤i→S i=⟨[],0⟩)
  {L:Nat→List zaj} (hL:∀ i,i<B.length→∃ R,st (B[i]?.getD zat).nm=some R∧zpu R.f (L i)) (h:H4) :
  zte B.length ((B.map (·.ts)).map zcr) (vs.map (zfy (B.map (·.ts)) (H.map (·.1)))) S h=zpj (B.map (·.ts)) (H.map (·.1)) L h:=by
 have hO:=zv7.of_perm hp
 have h3:∀ ts∈B.map (·.ts),ts.length≤3:=fun ts hts=>by obtain ⟨a,ha,rfl⟩:=List.mem_map.1 hts;exact hF.ok.t3 a ha
 have hat:∀ i,i<B.length→(B.map (·.ts))[i]?.getD []=(B[i]?.getD zat).ts:=fun i hi=>by simp [hi]
 have hP:=yed (H:=H.map (·.1)) hO h3 (S:=S) hN (fun i hi=>by
  obtain ⟨R,x,es,_,hx,e⟩:=hS i (by simpa using hi)
  rw [e]
  exact ⟨rfl,hx.good,hx.tot⟩) (fun i hi=>by rw [hS0 i (by simpa using hi)])
 have:=zo2 hO (H:=H.map (·.1)) (by simpa using hF.ok.h4) (fun v hv=>by
  obtain ⟨x,hx,rfl⟩:=List.mem_map.1 hv
  exact hp.mem_iff.2 (zdm.2 (hF.head x hx))) (cols:=fun i=>((zhp vs (B[i]?.getD zat)).c0,(zhp vs (B[i]?.getD zat)).c1,(zhp vs (B[i]?.getD zat)).c2)) (fun i hi=>by
  have hi':i<B.length:=by simpa using hi
  rw [hat i hi']
  have hm:B[i]?.getD zat∈B:=by simp [hi']
  refine (zon (hF.ok.t3 _ hm) hO.nd hO.nz fun j hj h0=>?_).1
  have:=hO.all i hi j (by rw [hat i hi'];exact hj) (by rw [hat i hi'];exact h0)
  rwa [hat i hi'] at this) hP (fun i=>by
  rcases Nat.lt_or_ge i B.length with hi|hi
  ·obtain ⟨R,x,es,_,hx,e⟩:=hS i hi;rw [e]
  ·rw [hS0 i hi]) (L:=L) (fun i hi=>by
  have hi':i<B.length:=by simpa using hi
  obtain ⟨R,x,es,hR,hx,e⟩:=hS i hi'
  obtain ⟨R',hR',hl⟩:=hL i hi'
  rw [hR] at hR'
  cases hR'
  unfold zcn
  rw [e]
  exact hx.eqv hl) h
 rw [List.length_map] at this
 exact this
theorem zw2 (W:World) {fix:Nat→Prop} {eb db nD nI nV N:Nat} {st:St} {ixs:IxS} {vws:VwS} (hE:EngV W fix eb db nD nI nV N st ixs vws) (k:zg2) (R:Rel) (hk:WfK k) (hR:st k.nm=some R) (hc:zm9 k.c0 k.c1 k.c2) (hRn:R.n≤N) (hN:N≤1000000) (hnI:nI≤1000000) :
  Calls Tryz.prog 107 #[.pointer (some ⟨eb,0,none⟩),ydm k] W fun e w'=>∃ x ixs' nI',e=.returned (.pointer (some ⟨x.XB,0,none⟩))∧EngV w' fix eb db nD nI' nV N st ixs' vws∧ixs' k=some x∧(∀ k' y,ixs k'=some y→ixs' k'=some y)∧(∀ k' y,ixs' k'=some y→ixs k'=some y∨(W.heap.size≤y.XB∧∀ g,y.rv.ownBlock=some g→W.heap.size≤g))∧nI'≤nI+1∧KeepX (fun q=>q=db+1) W w':=by
 cases hx:ixs k with
 | some x =>
  refine (zw3 W hE k x hx).mono ?_
  rintro e w' ⟨rfl,hb⟩
  exact ⟨x,ixs,nI,rfl,hE.below hb,hx,fun _ _ h=>h,fun _ _ h=>.inl h,by omega,KeepX.ofBelow hb⟩
 | none =>
  refine (zw4 W hE k R hk hx hR hc hRn hN hnI).mono ?_
  rintro e w' ⟨x,rfl,hE',hK,h1,h2⟩
  refine ⟨x,_,nI+1,rfl,hE',zb3 _ _ _,fun k' y h=>zmb hx h,fun k' y h=>?_,Nat.le_refl _,hK⟩
  by_cases e:k'=k
  ·subst e
   rw [zb3] at h
   cases h
   exact .inr ⟨h1,h2⟩
  ·rw [za8 e] at h
   exact .inl h
theorem EngV.aside {W W':World} {fix:Nat→Prop} {eb db nD nI nV N:Nat} {st:St} {ixs:IxS} {vws:VwS} (h:EngV W fix eb db nD nI nV N st ixs vws) {g:Nat} {cs:Array Value} {t:TypeId} (hk:KeepX (fun q=>q=g) W W') (hg:W.heap[g]? = some (.cells cs t (0,0))) (ht:t≠144∧t≠141∧t≠221) (hf:¬ fix g):EngV W' fix eb db nD nI nV N st ixs vws:=by
 have hmap:∀ {k:TypeId} {R:Value→Option (DataW Unit×List MemPlace)} {b n:Nat} {D:DataW Unit},W.ownsMap Tryz.prog k R b n D→W'.heap[b]? = W.heap[b]?:=fun {k R b n D} ho=>hk.blk b ho.lt (fun e=>by
  obtain ⟨es,cl,hm,_⟩:=ho
  rw [e,hg] at hm
  cases hm)
 have hfx:∀ q,fix q→W'.heap[q]? = W.heap[q]?:=fun q hq=>hk.blk q (h.flt q hq) (fun e=>hf (e ▸ hq))
 have hnE:∀ q,q=g→¬ zct W q:=by
  rintro q rfl ⟨c,hc⟩
  rw [hg] at hc
  injection hc with hc
  injection hc with _ hc
  exact ht.2.2 hc
 obtain ⟨D0,hD0,_⟩:=h.rep.dir
 have hrel:∀ nm R,st nm=some R→W'.heap[R.rb]? = W.heap[R.rb]?∧W'.heap[R.mb]? = W.heap[R.mb]?:=fun nm R hR=>by
  obtain ⟨_,D,hD,_⟩:=h.rep.rel nm R hR
  exact ⟨hfx _ (h.frb nm R hR).1,hmap hD⟩
 refine ⟨(h.rep.keptW hk.size (hfx _ h.feb) (hmap hD0) hrel).topW,fun q hq=>Nat.lt_of_lt_of_le (h.flt q hq) hk.size,h.feb,h.frb,h.fdb,?_,fun k x hx=>?_,h.iap,?_,fun nm v hv=>?_,h.vap,h.vrel⟩
 ·obtain ⟨D,h1,h2⟩:=h.imap
  exact ⟨D,zau h1 (hmap h1),h2⟩
 ·obtain ⟨a,b,R,c,d⟩:=h.idx k x hx
  obtain ⟨⟨bv,hb,_⟩,vals,hv,_⟩:=d.io
  refine ⟨a,b,R,c,d.kept hk hnE (fun e=>?_) (fun q hq e=>?_)⟩
  ·rw [e,hg] at hb
   injection hb with hb
   injection hb with _ hb
   exact ht.1 hb
  ·obtain ⟨cur,hc⟩:=zde hv hq
   rw [e,hg] at hc
   injection hc with hc
   injection hc with _ hc
   exact ht.2.1 hc
 ·obtain ⟨D,h1,h2⟩:=h.vmap
  exact ⟨D,zau h1 (hmap h1),h2⟩
 ·obtain ⟨a,b⟩:=h.vw nm v hv
  obtain ⟨D,hD,_⟩:=a.map
  exact ⟨a.kept hfx (hmap hD),b⟩
theorem zuo {W W':World} {g:Nat} (h:W.grownBy W' (some g)):KeepX (fun q=>q=g) W W':=⟨h.os,h.tape,h.output,h.size,fun q hq hx=>h.block q hq (fun e=>hx (Option.some.inj e))⟩
theorem zts {W W':World} (h:W.grownBy W' none):Below W.heap.size W W':=⟨h.os,h.tape,h.output,h.size,fun q hq=>h.block q hq (fun e=>by cases e)⟩
theorem EngV.grown {W W':World} {fix:Nat→Prop} {eb db nD nI nV N:Nat} {st:St} {ixs:IxS} {vws:VwS} (h:EngV W fix eb db nD nI nV N st ixs vws) {base n size:Nat} {v:Value} {xs:List Value} {t:TypeId} (ho:W.ownsRow base t size v n xs) (hg:W.grownBy W' v.ownBlock) (ht:t≠144∧t≠141∧t≠221) (hf:∀ q,fix q→q<base):EngV W' fix eb db nD nI nV N st ixs vws:=by
 cases hv:v.ownBlock with
 | none=>rw [hv] at hg;exact h.below (zts hg)
 | some g =>
  rw [hv] at hg
  obtain ⟨cur,hc⟩:=zde ho hv
  exact h.aside (zuo hg) hc ht (fun hq=>by have:=hf g hq;have:=zb6 ho hv;omega)
theorem ygq (PB:Nat) (kv:Value) (W:World) (h:W.cell? ⟨PB,0,none⟩=some kv):Calls Tryz.prog 106 #[.pointer (some ⟨PB,0,none⟩)] W fun e w'=>e=.returned kv∧w'=W:=by
 go_enter Tryz.func106,Tryz.ntmps106
 go_wp2
 go_ret
 exact ⟨rfl,rfl⟩
theorem zyz (W:World):zgv (W.alloc (.map #[] 0)) W.heap.size 0 (fun _=>0):=
 ⟨.map [],World.ownsMap_made _ _ _ _,⟨fun _ _=>rfl,fun _ _=>by simp [Maps.has],fun _ h=>by simp [Maps.has] at h⟩⟩
structure NvS (W wx:World) (VB PB mb base hi:Nat) (H:List (Nat×Nat)) (B:List zbb) (vs:List Nat):Prop where
 blk:wx.heap[VB]? = some (.cells #[.pointer (some ⟨PB,0,none⟩),.slice none 0 0,.int .i64 H.length,.map (some mb)] 89 (0,0))
 ord:vs.Perm (zbl (B.map (·.ts)))
 plan:zic (fun b=>base≤b∧b<hi) (fun w=>zd8 w base PB (H.map (·.1)) (B.map (·.ts)) B B vs vs) wx
 kx:∃ kv,wx.cell? ⟨PB,0,none⟩=some kv∧zic (fun b=>base≤b∧b<hi) (fun w=>w.ownsRow base 96 4 kv B.length (zr9 vs B)) wx
 map:zgv wx mb 0 (fun _=>0)
 low:Below W.heap.size W wx
 hb:W.heap.size≤base
 hv:hi≤VB
 hm:mb<base∨hi≤mb
 hm0:W.heap.size≤mb
theorem yd1 {W W' w1:World} {PB:Nat} {H:List (Nat×Nat)} {B:List zbb} {vs:List Nat} (hW:Below W.heap.size W W') (hb:Below W'.heap.size W' w1) (hp:vs.Perm (zbl (B.map (·.ts)))) (hP:zd8 w1 W'.heap.size PB (H.map (·.1)) (B.map (·.ts)) B B vs vs) :
  NvS W ((w1.alloc (.map #[] 0)).alloc (.cells #[.pointer (some ⟨PB,0,none⟩),.slice none 0 0,.int .i64 H.length,.map (some w1.heap.size)] 89)) (w1.heap.size+1) PB w1.heap.size W'.heap.size w1.heap.size H B vs:=by
 have h1:Below w1.heap.size w1 ((w1.alloc (.map #[] 0)).alloc (.cells #[.pointer (some ⟨PB,0,none⟩),.slice none 0 0,.int .i64 H.length,.map (some w1.heap.size)] 89)):=((Below.refl _ _).alloc (Nat.le_refl _) _).alloc (by simp) _
 have hs:=hW.size
 have hs1:=hb.size
 have hkx:∃ kv,((w1.alloc (.map #[] 0)).alloc (.cells #[.pointer (some ⟨PB,0,none⟩),.slice none 0 0,.int .i64 H.length,.map (some w1.heap.size)] 89)).cell? ⟨PB,0,none⟩=some kv∧zic (fun b=>W'.heap.size≤b∧b<w1.heap.size) (fun w=>w.ownsRow W'.heap.size 96 4 kv B.length (zr9 vs B)) ((w1.alloc (.map #[] 0)).alloc (.cells #[.pointer (some ⟨PB,0,none⟩),.slice none 0 0,.int .i64 H.length,.map (some w1.heap.size)] 89)):=by
  obtain ⟨kv,_,_,_,_,hPB,hkr,_⟩:=hP.ex
  exact ⟨kv,zab (zan h1 hPB) 0,fun w hw=>zfc hkr (T:=fun b=>W'.heap.size≤b∧b<w1.heap.size) (fun k a b=>⟨a,b⟩) (fun k hk=>(hw k hk).trans (h1.block k hk.2))⟩
 exact ⟨zae _ _ _ (by simp),hp,fun w hw=>hP.agree (T:=fun b=>W'.heap.size≤b∧b<w1.heap.size) (fun k a b=>⟨a,b⟩) (fun k hk=>(hw k hk).trans (h1.block k hk.2)),hkx,(zyz w1).kept (Below.heap_alloc _ _ _ (by simp)),(hW.trans (hb.mono hs)).trans (h1.mono (by omega)),hs,by omega,.inr (Nat.le_refl _),by omega⟩
theorem ya0 {W W' w1:World} {PB:Nat} {H:List (Nat×Nat)} {B:List zbb} {vs:List Nat} (hW:Below W.heap.size W W') (hb:Below (W'.alloc (.map #[] 0)).heap.size (W'.alloc (.map #[] 0)) w1) (hp:vs.Perm (zbl (B.map (·.ts)))) (hP:zd8 w1 (W'.alloc (.map #[] 0)).heap.size PB (H.map (·.1)) (B.map (·.ts)) B B vs vs) :
  NvS W (w1.alloc (.cells #[.pointer (some ⟨PB,0,none⟩),.slice none 0 0,.int .i64 H.length,.map (some W'.heap.size)] 89)) w1.heap.size PB W'.heap.size (W'.alloc (.map #[] 0)).heap.size w1.heap.size H B vs:=by
 have h1:Below w1.heap.size w1 (w1.alloc (.cells #[.pointer (some ⟨PB,0,none⟩),.slice none 0 0,.int .i64 H.length,.map (some W'.heap.size)] 89)):=(Below.refl _ _).alloc (Nat.le_refl _) _
 have hs:=hW.size
 have hs1:=hb.size
 have hs2:(W'.alloc (.map #[] 0)).heap.size=W'.heap.size+1:=by simp
 have hA:Below W.heap.size W (W'.alloc (.map #[] 0)):=hW.alloc hs _
 have hm:=zyz W'
 have hkx:∃ kv,(w1.alloc (.cells #[.pointer (some ⟨PB,0,none⟩),.slice none 0 0,.int .i64 H.length,.map (some W'.heap.size)] 89)).cell? ⟨PB,0,none⟩=some kv∧zic (fun b=>(W'.alloc (.map #[] 0)).heap.size≤b∧b<w1.heap.size) (fun w=>w.ownsRow (W'.alloc (.map #[] 0)).heap.size 96 4 kv B.length (zr9 vs B)) (w1.alloc (.cells #[.pointer (some ⟨PB,0,none⟩),.slice none 0 0,.int .i64 H.length,.map (some W'.heap.size)] 89)):=by
  obtain ⟨kv,_,_,_,_,hPB,hkr,_⟩:=hP.ex
  exact ⟨kv,zab (zan h1 hPB) 0,fun w hw=>zfc hkr (T:=fun b=>(W'.alloc (.map #[] 0)).heap.size≤b∧b<w1.heap.size) (fun k a b=>⟨a,b⟩) (fun k hk=>(hw k hk).trans (h1.block k hk.2))⟩
 exact ⟨zae _ _ _ rfl,hp,fun w hw=>hP.agree (T:=fun b=>(W'.alloc (.map #[] 0)).heap.size≤b∧b<w1.heap.size) (fun k a b=>⟨a,b⟩) (fun k hk=>(hw k hk).trans (h1.block k hk.2)),hkx,(hm.kept (hb.block _ hm.lt)).kept (h1.block _ (Nat.lt_of_lt_of_le hm.lt hs1)),(hA.trans (hb.mono hA.size)).trans (h1.mono (by omega)),hA.size,Nat.le_refl _,.inl (by omega),hs⟩
def zu4 (xs:List Nat):List Value:=xs.map fun (x:Nat)=>Value.pointer (some ⟨x,0,none⟩)
def yju (w:World) (lo:Nat) (sv:SV) (rs:List (List zaj)):Prop:=∃ vals,w.ownsRow lo 141 1 sv.val vals.length vals∧zij w vals rs
theorem yju.runsAt {w:World} {lo:Nat} {sv:SV} {rs:List (List zaj)} (h:yju w lo sv rs):zay w sv.val rs:=by
 obtain ⟨vals,h1,h2⟩:=h
 exact h2.runsAt (zfd h1 (Nat.zero_le _))
theorem yju.keep {w w':World} {lo:Nat} {sv:SV} {rs:List (List zaj)} {X:Nat→Prop} (h:yju w lo sv rs) (hk:KeepX X w w') (hE:∀ k,X k→¬ zct w k) (hr:∀ g,sv.val.ownBlock=some g→¬ X g):yju w' lo sv rs:=by
 obtain ⟨vals,h1,h2⟩:=h
 exact ⟨vals,zcc h1 hk hr,h2.keepT hk hE⟩
theorem zvk (sv:Nat→SV) (k:Nat) (hk:k<4) (s:SV):((zag sv (fun _=>0)).setIfInBounds (k*2) (.slice s.a s.n s.cap)).setIfInBounds (k*2+1) (.int .i64 0)=zag (zfl sv k s) (fun _=>0):=by
 match k,hk with
 | 0,_=>simp [zag,zfl]
 | 1,_=>simp [zag,zfl]
 | 2,_=>simp [zag,zfl]
 | 3,_=>simp [zag,zfl]
structure NvJ (W:World) (fix:Nat→Prop) (eb db nD nV N:Nat) (st:St) (ixs:IxS) (vws:VwS) (VB PB mb SB base hi:Nat) (H:List (Nat×Nat)) (B:List zbb) (vs:List Nat) (kv:Value) (kx ks:Nat) (wr:World) (ixk:IxS) (nIk:Nat) (xs:List Nat) (iv:Value) (svk:Nat→SV) (S:Nat→Src):Prop where
 eng:EngV wr fix eb db nD nIk nV N st ixk vws
 inc:∀ key y,ixs key=some y→ixk key=some y
 new:∀ key y,ixk key=some y→ixs key=some y∨(SB<y.XB∧∀ g,y.rv.ownBlock=some g→SB<g)
 xl:xs.length=kx
 xa:∀ i,i<kx→∃ x,ixk (zhp vs (B[i]?.getD zat))=some x∧xs[i]?.getD 0=x.XB
 sa:∀ i,i<ks→∃ x,ixk (zhp vs (B[i]?.getD zat))=some x∧S i=⟨x.rs,0⟩∧yju wr (SB+1) (svk i) x.rs
 sn:∀ i,ks≤i→S i=⟨[],0⟩∧svk i=⟨none,0,0⟩
 vb:wr.heap[VB]? = some (.cells #[.pointer (some ⟨PB,0,none⟩),iv,.int .i64 H.length,.map (some mb)] 89 (0,0))
 iv:wr.ownsRow (SB+1) 97 1 iv kx (zu4 xs)
 sb:wr.heap[SB]? = some (.cells (zag svk (fun _=>0)) 192 (0,0))
 keys:zic (fun b=>base≤b∧b<hi) (fun w=>yb3 w kv vs B) wr
 plan:zic (fun b=>base≤b∧b<hi) (fun w=>zd8 w base PB (H.map (·.1)) (B.map (·.ts)) B B vs vs) wr
 map:zgv wr mb 0 (fun _=>0)
 keep:KeepX (fun q=>q=db+1) W wr
 big:SB+1≤wr.heap.size
structure NvF (W:World) (fix:Nat→Prop) (db VB mb SB base hi:Nat):Prop where
 fl:∀ q,fix q→q<W.heap.size
 dl:db+1<W.heap.size
 b:W.heap.size≤base
 h:hi≤VB
 m:mb<base∨hi≤mb
 m0:W.heap.size≤mb
 v:VB<SB
 ms:mb<SB
 bh:base≤hi
section
variable {W:World} {fix:Nat→Prop} {eb db nD nV N:Nat} {st:St} {ixs:IxS} {vws:VwS} {VB PB mb SB base hi:Nat} {H:List (Nat×Nat)} {B:List zbb} {vs:List Nat} {kv:Value} {kx ks:Nat} {wr:World} {ixk:IxS} {nIk:Nat} {xs:List Nat} {iv:Value} {svk:Nat→SV} {S:Nat→Src}
theorem NvJ.below (h:NvJ W fix eb db nD nV N st ixs vws VB PB mb SB base hi H B vs kv kx ks wr ixk nIk xs iv svk S) (hF:NvF W fix db VB mb SB base hi) {w':World} (hb:Below wr.heap.size wr w'):NvJ W fix eb db nD nV N st ixs vws VB PB mb SB base hi H B vs kv kx ks w' ixk nIk xs iv svk S:=by
 have hT:∀ k,base≤k∧k<hi→w'.heap[k]? = wr.heap[k]?:=fun k hk=>hb.block k (by have:=h.big;have:=hF.h;have:=hF.v;omega)
 exact ⟨h.eng.below hb,h.inc,h.new,h.xl,h.xa,fun i hi=>by obtain ⟨x,a,b,c⟩:=h.sa i hi;exact ⟨x,a,b,c.keep (X:=fun _=>False) (KeepX.ofBelow hb) (fun _ h=>h.elim) (fun _ _ h=>h)⟩,h.sn,zan hb h.vb,zbs h.iv hb,zan hb h.sb,h.keys.keep hT,h.plan.keep hT,h.map.kept (hb.block _ h.map.lt),h.keep.trans (KeepX.ofBelow hb),Nat.le_trans h.big hb.size⟩
theorem NvJ.idx (h:NvJ W fix eb db nD nV N st ixs vws VB PB mb SB base hi H B vs kv kx ks wr ixk nIk xs iv svk S) (hF:NvF W fix db VB mb SB base hi) {w':World} {ixk':IxS} {nIk':Nat} (hE:EngV w' fix eb db nD nIk' nV N st ixk' vws) (hi1:∀ k' y,ixk k'=some y→ixk' k'=some y) (hi2:∀ k' y,ixk' k'=some y→ixk k'=some y∨(wr.heap.size≤y.XB∧∀ g,y.rv.ownBlock=some g→wr.heap.size≤g)) (hk:KeepX (fun q=>q=db+1) wr w'):NvJ W fix eb db nD nV N st ixs vws VB PB mb SB base hi H B vs kv kx ks w' ixk' nIk' xs iv svk S:=by
 have h1:=hF.dl
 have h2:=hF.b
 have h3:=hF.h
 have h4:=hF.v
 have h5:=hF.bh
 have h6:=h.big
 have hT:∀ k,base≤k∧k<hi→w'.heap[k]? = wr.heap[k]?:=fun k hk'=>hk.blk k (by omega) (by omega)
 have hN:∀ q,q=db+1→¬ zct wr q:=by
  rintro q rfl ⟨cs,hcs⟩
  obtain ⟨D,⟨es,cl,hm,_⟩,_⟩:=h.eng.imap
  rw [hm] at hcs
  cases hcs
 refine ⟨hE,fun key y hy=>hi1 _ _ (h.inc key y hy),fun key y hy=>?_,h.xl,fun i hi=>by obtain ⟨x,a,b⟩:=h.xa i hi;exact ⟨x,hi1 _ _ a,b⟩,fun i hi=>by obtain ⟨x,a,b,c⟩:=h.sa i hi;exact ⟨x,hi1 _ _ a,b,c.keep hk hN (fun g hg=>by obtain ⟨vals,c1,_⟩:=c;have:=zb6 c1 hg;omega)⟩,h.sn,(hk.blk VB (Array.getElem?_eq_some_iff.1 h.vb).1 (by omega)).trans h.vb,zcc h.iv hk (fun g hg=>by have:=zb6 h.iv hg;omega),(hk.blk SB (Array.getElem?_eq_some_iff.1 h.sb).1 (by omega)).trans h.sb,h.keys.keep hT,h.plan.keep hT,h.map.kept (hk.blk mb h.map.lt (by have:=hF.m0;omega)),h.keep.trans hk,Nat.le_trans h6 hk.size⟩
 rcases hi2 key y hy with h7|⟨h7,h8⟩
 ·exact h.new key y h7
 ·exact .inr ⟨by omega,fun g hg=>by have:=h8 g hg;omega⟩
theorem NvJ.app (h:NvJ W fix eb db nD nV N st ixs vws VB PB mb SB base hi H B vs kv kx ks wr ixk nIk xs iv svk S) (hF:NvF W fix db VB mb SB base hi) {x:zmr} (hx:ixk (zhp vs (B[kx]?.getD zat))=some x) {w3:World} {iv':Value} (hg:wr.grownBy w3 iv.ownBlock) (ho:w3.ownsRow (SB+1) 97 1 iv' (kx+1) (zu4 xs ++ [.pointer (some ⟨x.XB,0,none⟩)])) :
  w3.heap[VB]? = some (.cells #[.pointer (some ⟨PB,0,none⟩),iv,.int .i64 H.length,.map (some mb)] 89 (0,0))∧NvJ W fix eb db nD nV N st ixs vws VB PB mb SB base hi H B vs kv (kx+1) ks (w3.setCell ⟨VB,1,none⟩ iv') ixk nIk (xs ++ [x.XB]) iv' svk S:=by
 have h1:=hF.dl
 have h2:=hF.b
 have h3:=hF.h
 have h4:=hF.v
 have h5:=hF.bh
 have h6:=h.big
 have hbl:∀ g,iv.ownBlock=some g→∃ cs,wr.heap[g]? = some (.cells cs 97 (0,0)):=fun g e=>zde h.iv e
 have hge:∀ g,iv.ownBlock=some g→SB+1≤g:=fun g e=>zb6 h.iv e
 have hK1:KeepX (fun q=>iv.ownBlock=some q) wr w3:=⟨hg.os,hg.tape,hg.output,hg.size,fun q hq hx=>hg.block q hq (fun e=>hx e.symm)⟩
 have hvb3:w3.heap[VB]? = some (.cells #[.pointer (some ⟨PB,0,none⟩),iv,.int .i64 H.length,.map (some mb)] 89 (0,0)):=(hK1.blk VB (Array.getElem?_eq_some_iff.1 h.vb).1 (fun e=>by have:=hge _ e;omega)).trans h.vb
 have hK2:=zgb w3 VB 1 iv'
 have hne1:∀ q,iv.ownBlock=some q→¬ zct wr q:=fun q e ⟨cs,hcs⟩=>by
  obtain ⟨cs',h'⟩:=hbl q e
  rw [h'] at hcs
  simp at hcs
 have hne2:∀ q,q=VB→¬ zct w3 q:=fun q e ⟨cs,hcs⟩=>by
  subst e
  rw [hvb3] at hcs
  simp at hcs
 have hE3:=h.eng.grown h.iv hg (by decide) (fun q hq=>by have:=hF.fl q hq;omega)
 have hE4:=hE3.aside hK2 hvb3 (by decide) (fun hq=>by have:=hF.fl _ hq;omega)
 have hT:∀ k,base≤k∧k<hi→(w3.setCell ⟨VB,1,none⟩ iv').heap[k]? = wr.heap[k]?:=fun k hk'=>(hK2.blk k (by have:=hg.size;omega) (by omega)).trans (hK1.blk k (by omega) (fun e=>by have:=hge _ e;omega))
 refine ⟨hvb3,hE4,h.inc,h.new,by simp [h.xl],fun i hi'=>?_,fun i hi=>?_,h.sn,zdn hvb3,?_,?_,h.keys.keep hT,h.plan.keep hT,?_,?_,by have:=hK2.size;have:=hg.size;omega⟩
 ·by_cases e:i<kx
  ·obtain ⟨y,a,b⟩:=h.xa i e
   exact ⟨y,a,by rw [List.getElem?_append_left (by rw [h.xl];exact e)];exact b⟩
  ·have e':i=kx:=by omega
   subst e'
   exact ⟨x,hx,by rw [← h.xl];simp⟩
 ·obtain ⟨y,a,b,c⟩:=h.sa i hi
  obtain ⟨vals,c1,c2⟩:=id c
  have c3:=c.keep hK1 hne1 (fun g hg' e=>by
   obtain ⟨cs',h'⟩:=hbl g e
   obtain ⟨cur,h''⟩:=zde c1 hg'
   rw [h'] at h''
   simp at h'')
  obtain ⟨vals',c4,c5⟩:=id c3
  exact ⟨y,a,b,c3.keep hK2 hne2 (fun g hg' e=>by have:=zb6 c4 hg';omega)⟩
 ·have e:zu4 (xs ++ [x.XB])=zu4 xs ++ [.pointer (some ⟨x.XB,0,none⟩)]:=by simp [zu4]
  rw [e]
  exact zcc ho hK2 (fun g hg' e=>by have:=zb6 ho hg';omega)
 ·exact (hK2.blk SB (by have:=hg.size;omega) (by omega)).trans ((hK1.blk SB (by omega) (fun e=>by have:=hge _ e;omega)).trans h.sb)
 ·have hm:=h.map.lt
  have hmn:∀ g,iv.ownBlock=some g→mb≠g:=fun g e=>by have:=hge _ e;have:=hF.ms;omega
  exact (h.map.kept (hK1.blk mb hm (fun e=>hmn _ e rfl))).kept (hK2.blk mb (by have:=hg.size;omega) (fun e=>by
   obtain ⟨D,⟨es,cl,hq,_⟩,_⟩:=h.map
   have:=h.vb
   rw [← e,hq] at this
   cases this))
 ·refine ⟨hK2.os.trans (hK1.os.trans h.keep.os),hK2.tape.trans (hK1.tape.trans h.keep.tape),hK2.output.trans (hK1.output.trans h.keep.output),Nat.le_trans h.keep.size (Nat.le_trans hK1.size hK2.size),fun q hq hx=>?_⟩
  have hs1:=h.keep.size
  have hs2:=hg.size
  exact (hK2.blk q (by omega) (by omega)).trans ((hK1.blk q (by omega) (fun e=>by have:=hge _ e;omega)).trans (h.keep.blk q hq hx))
theorem NvJ.src (h:NvJ W fix eb db nD nV N st ixs vws VB PB mb SB base hi H B vs kv kx ks wr ixk nIk xs iv svk S) (hF:NvF W fix db VB mb SB base hi) {x:zmr} (hx:ixk (zhp vs (B[ks]?.getD zat))=some x) (hks:ks<4) {w5:World} (hb:Below wr.heap.size wr w5) {a:Option Addr} {n cap:Nat} {vals:List Value} (ho:w5.ownsRow (wr.heap.size+3) 141 1 (.slice a n cap) vals.length vals) (hv:zdw wr vals x.rs) :
  NvJ W fix eb db nD nV N st ixs vws VB PB mb SB base hi H B vs kv kx (ks+1) ((w5.setCell ⟨SB,ks*2,none⟩ (.slice a n cap)).setCell ⟨SB,ks*2+1,none⟩ (.int .i64 0)) ixk nIk xs iv (zfl svk ks ⟨a,n,cap⟩) (zfl S ks ⟨x.rs,0⟩):=by
 have h5:=h.below hF hb
 have h1:=hF.dl
 have h2:=hF.b
 have h3:=hF.h
 have h4:=hF.v
 have h8:=hF.bh
 have h6:=h.big
 have h7:=h5.big
 have hbs:=hb.size
 have hK1:=zgb w5 SB (ks*2) (.slice a n cap)
 have hK2:=zgb (w5.setCell ⟨SB,ks*2,none⟩ (.slice a n cap)) SB (ks*2+1) (.int .i64 0)
 have hK:=hK1.trans hK2
 have hsb1:=zdn (p:=ks*2) (v:=.slice a n cap) h5.sb
 have hsb2:=zdn (p:=ks*2+1) (v:=.int .i64 0) hsb1
 have hcs:=zvk svk ks hks ⟨a,n,cap⟩
 dsimp only at hcs
 rw [hcs] at hsb2
 have hE6:=h5.eng.aside hK h5.sb (by decide) (fun hq=>by have:=hF.fl _ hq;have:=h.keep.size;omega)
 have hT:∀ k,base≤k∧k<hi→((w5.setCell ⟨SB,ks*2,none⟩ (.slice a n cap)).setCell ⟨SB,ks*2+1,none⟩ (.int .i64 0)).heap[k]? = w5.heap[k]?:=fun k hk'=>hK.blk k (by omega) (by omega)
 have hnE:∀ q,q=SB→¬ zct w5 q:=fun q e ⟨cs,hcs⟩=>by
  subst e
  rw [h5.sb] at hcs
  simp at hcs
 have hksz:=hK.size
 have hR2:zij w5 vals x.rs:=by
  obtain ⟨v1,v2⟩:=hv
  exact ⟨v1,fun i hi=>by obtain ⟨b,o,cp,_,e1,e2⟩:=v2 i hi;exact ⟨b,o,cp,e1,e2.below hb⟩⟩
 refine ⟨hE6,h.inc,h.new,h.xl,h.xa,fun i hi'=>?_,fun i hi'=>?_,(hK.blk VB (by omega) (by omega)).trans h5.vb,zcc h5.iv hK (fun g hg=>by have:=zb6 h5.iv hg;omega),hsb2,h5.keys.keep hT,h5.plan.keep hT,h5.map.kept (hK.blk mb h5.map.lt (by have:=hF.ms;omega)),?_,by omega⟩
 ·by_cases e:i=ks
  ·subst e
   refine ⟨x,hx,by simp [zfl],vals,?_,hR2.keepT hK hnE⟩
   rw [show zfl svk i ⟨a,n,cap⟩ i=⟨a,n,cap⟩ by simp [zfl]]
   exact zcc (zfd ho (by omega)) hK (fun g hg=>by have:=zb6 ho hg;omega)
  ·obtain ⟨y,a1,b1,c1⟩:=h5.sa i (by omega)
   refine ⟨y,a1,by simp only [zfl];rw [if_neg e];exact b1,?_⟩
   rw [show zfl svk ks ⟨a,n,cap⟩ i=svk i by simp [zfl,e]]
   exact c1.keep hK hnE (fun g hg=>by obtain ⟨vals',c2,_⟩:=c1;have:=zb6 c2 hg;omega)
 ·have e:i≠ks:=by omega
  obtain ⟨a1,b1⟩:=h.sn i (by omega)
  simp only [zfl]
  rw [if_neg e,if_neg e]
  exact ⟨a1,b1⟩
 ·refine ⟨hK.os.trans h5.keep.os,hK.tape.trans h5.keep.tape,hK.output.trans h5.keep.output,Nat.le_trans h5.keep.size hK.size,fun q hq hx=>?_⟩
  have:=h5.keep.size
  exact (hK.blk q (by omega) (by omega)).trans (h5.keep.blk q hq hx)
end
end Go.Proofs.YtoifcnidhfnapaaGreatDoor
