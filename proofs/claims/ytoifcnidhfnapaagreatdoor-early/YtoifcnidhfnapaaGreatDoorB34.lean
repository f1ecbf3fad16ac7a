import Derived.Test.YtoifcnidhfnapaaGreatDoorB33
import Derived.Deep.CutRange
set_option linter.unusedVariables false
set_option linter.unusedSimpArgs false
set_option maxRecDepth 100000
set_option maxHeartbeats 16000000
namespace Go.Proofs.YtoifcnidhfnapaaGreatDoor
open Go.RowKit Go.Maps Go.Sort Go.Shelf
theorem zq3 {W W':World} {base:Nat} {e:TypeId} {size:Nat} {v:Value} {n:Nat} {xs:List Value} (h:W.ownsRow base e size v n xs) (hk:∀ g,v.ownBlock=some g→W'.heap[g]? = W.heap[g]?):W'.ownsRow base e size v n xs:=by
  refine ⟨h.1,?_⟩
  rcases h.2 with h2|⟨g,cap,cur,rfl,hg,hgh,r⟩
  · exact .inl h2
  · exact .inr ⟨g,cap,cur,rfl,hg,(hk g rfl).trans hgh,r⟩
theorem zxu {w:World} {base:Nat} {v:Value} {xs:List Nat} (h:w.ownsRow base 97 1 v xs.length (zu4 xs)):zjm w v xs:=by
  obtain ⟨p,c,rfl,hle,hn,hs⟩:=zak h
  refine ⟨p,c,rfl,fun j hj=>?_⟩
  cases p with
  | none=>have:=(hn rfl).1;omega
  | some ad =>
    obtain ⟨g,rfl,_,_,hc⟩:=hs ad rfl
    exact ⟨g,0,rfl,by rw [Nat.zero_add,hc _ (by omega)];simp [zu4,hj]⟩
theorem EngV.asideM {W W':World} {fix:Nat→Prop} {eb db nD nI nV N:Nat} {st:St} {ixs:IxS} {vws:VwS} (h:EngV W fix eb db nD nI nV N st ixs vws) {g:Nat} (hk:KeepX (fun q=>q=g) W W') (hg:ztl W g) (hf:¬ fix g) (hdb:g≠db∧g≠db+1∧g≠db+2) (hr:∀ nm R,st nm=some R→g≠R.mb) (hv:∀ nm v,vws nm=some v→g≠v.mb):EngV W' fix eb db nD nI nV N st ixs vws:=by
  have hfx:∀ q,fix q→W'.heap[q]? = W.heap[q]?:=fun q hq=>hk.blk q (h.flt q hq) (fun e=>hf (e ▸ hq))
  have hnE:∀ q,q=g→¬ zct W q:=by
    rintro q rfl ⟨c,hc⟩
    exact hg _ _ _ hc
  obtain ⟨D0,hD0,_⟩:=h.rep.dir
  have hrel:∀ nm R,st nm=some R→W'.heap[R.rb]? = W.heap[R.rb]?∧W'.heap[R.mb]? = W.heap[R.mb]?:=fun nm R hR=>⟨hfx _ (h.frb nm R hR).1,hk.blk _ (h.rep.rel nm R hR).2.lt (fun e=>hr nm R hR e.symm)⟩
  refine ⟨(h.rep.keptW hk.size (hfx _ h.feb) (hk.blk _ hD0.lt (fun e=>hdb.1 e.symm)) hrel).topW,fun q hq=>Nat.lt_of_lt_of_le (h.flt q hq) hk.size,h.feb,h.frb,h.fdb,?_,fun k x hx=>?_,h.iap,?_,fun nm v hv'=>?_,h.vap,h.vrel⟩
  · obtain ⟨D,h1,h2⟩:=h.imap
    exact ⟨D,zau h1 (hk.blk _ h1.lt (fun e=>hdb.2.1 e.symm)),h2⟩
  · obtain ⟨a,b,R,c,d⟩:=h.idx k x hx
    obtain ⟨⟨bv,hb,_⟩,vals,hv,_⟩:=d.io
    refine ⟨a,b,R,c,d.kept hk hnE (fun e=>?_) (fun q hq e=>?_)⟩
    · rw [e] at hb
      exact hg _ _ _ hb
    · obtain ⟨cur,hc⟩:=zde hv hq
      rw [e] at hc
      exact hg _ _ _ hc
  · obtain ⟨D,h1,h2⟩:=h.vmap
    exact ⟨D,zau h1 (hk.blk _ h1.lt (fun e=>hdb.2.2 e.symm)),h2⟩
  · obtain ⟨a,b⟩:=h.vw nm v hv'
    exact ⟨a.kept hfx (hk.blk _ a.map.lt (fun e=>hv nm v hv' e.symm)),b⟩
structure zyp (W:World) (fix:Nat→Prop) (eb db nD nI nV N:Nat) (st:St) (ixs:IxS) (vws:VwS) (H:List (Nat×Nat)) (B:List zbb) (w':World) (v:zec):Prop where
  ex:∃ ixk nIk fn,EngV w' fix eb db nD nIk nV N st ixk vws∧nIk≤nI+4∧(∀ b,fn b→W.heap.size≤b∧b<w'.heap.size)∧zpw w' fn st ixk v∧(∀ key x,ixk key=some x→¬ fn x.XB∧∀ g,x.rv.ownBlock=some g→¬ fn g)∧(∀ key y,ixs key=some y→ixk key=some y)∧∀ key y,ixk key=some y→ixs key=some y∨(W.heap.size≤y.XB∧∀ g,y.rv.ownBlock=some g→W.heap.size≤g)
  holds:yb0 st v
  hq:v.H=H∧v.B=B
  mb0:W.heap.size≤v.mb
  vb0:W.heap.size≤v.VB
  vn:v.n≤N ^ 4+1
  keep:KeepX (fun q=>q=db+1) W w'
section
variable {W:World} {fix:Nat→Prop} {eb db nD nI nV N:Nat} {st:St} {ixs:IxS} {vws:VwS} {VB PB mb SB base hi:Nat} {H:List (Nat×Nat)} {B:List zbb} {vs:List Nat} {kv:Value} {wr:World} {ixk:IxS} {nIk:Nat} {xs:List Nat} {iv:Value} {svk:Nat→SV} {S:Nat→Src}
theorem NvJ.runs (h:NvJ W fix eb db nD nV N st ixs vws VB PB mb SB base hi H B vs kv B.length B.length wr ixk nIk xs iv svk S):∀ i,i<4→zay wr (svk i).val (S i).rs:=by
  intro i hi'
  rcases Nat.lt_or_ge i B.length with hi|hi
  · obtain ⟨x,a,b,c⟩:=h.sa i hi
    rw [b]
    exact c.runsAt
  · obtain ⟨a,b⟩:=h.sn i hi
    rw [a,b]
    exact ⟨none,0,rfl,fun j hj=>by simp at hj⟩
theorem NvJ.good (h:NvJ W fix eb db nD nV N st ixs vws VB PB mb SB base hi H B vs kv B.length B.length wr ixk nIk xs iv svk S):∀ i,i<B.length→∃ R x es,st (B[i]?.getD zat).nm=some R∧zv6 wr N R.f (zhp vs (B[i]?.getD zat)) x es∧S i=⟨x.rs,0⟩:=by
  intro i hi
  obtain ⟨x,a,b,c⟩:=h.sa i hi
  obtain ⟨_,_,R,hR,hx⟩:=h.eng.idx _ _ a
  exact ⟨R,x,[],hR,hx,b⟩
theorem NvJ.pok (h:NvJ W fix eb db nD nV N st ixs vws VB PB mb SB base hi H B vs kv B.length B.length wr ixk nIk xs iv svk S) (hF:zdq st H B) (hp:vs.Perm (zbl (B.map (·.ts)))) (hN:N≤10000):POK B.length ((B.map (·.ts)).map zcr) (vs.map (zfy (B.map (·.ts)) (H.map (·.1)))) S:=by
  have h3:∀ ts∈B.map (·.ts),ts.length≤3:=fun ts hts=>by obtain ⟨a,ha,rfl⟩:=List.mem_map.1 hts;exact hF.ok.t3 a ha
  have:=yed (H:=H.map (·.1)) (zv7.of_perm hp) h3 (S:=S) (N:=N) (by omega) (fun i hi=>by
    obtain ⟨R,x,es,_,hx,e⟩:=h.good i (by simpa using hi)
    rw [e]
    exact ⟨rfl,hx.good,hx.tot⟩) (fun i hi=>by rw [(h.sn i (by simpa using hi)).1])
  rw [List.length_map] at this
  exact this
theorem NvJ.cnt (h:NvJ W fix eb db nD nV N st ixs vws VB PB mb SB base hi H B vs kv B.length B.length wr ixk nIk xs iv svk S) (hF:zdq st H B) (hp:vs.Perm (zbl (B.map (·.ts)))) (hN:N≤10000) (hN1:1≤N):zmn B.length (zjq ((B.map (·.ts)).map zcr) S ((B.map (·.ts)).map zcr).length)≤N ^ 4:=
  yey (h.pok hF hp hN) (by simp) hF.ok.b4 hN1 (fun i hi=>by
    obtain ⟨R,x,es,_,hx,e⟩:=h.good i hi
    rw [e]
    exact hx.tot)
theorem NvJ.done (h:NvJ W fix eb db nD nV N st ixs vws VB PB mb SB base hi H B vs kv B.length B.length wr ixk nIk xs iv svk S) (hF:NvF W fix db VB mb SB base hi) (hQF:zdq st H B) (hp:vs.Perm (zbl (B.map (·.ts)))) (hE0:EngV W fix eb db nD nI nV N st ixs vws) (hnk:nIk≤nI+B.length) (hN:N≤10000)
    {w6 w7:World} (hb:Below wr.heap.size wr w6) (hk7:KeepX (fun q=>q=mb) w6 w7) {n:Nat} {f:H4→Int} (hM:zgv w7 mb n f) (hn:n≤N ^ 4+1) (hf:∀ h,BitVec.ofInt 64 (f h)=zte B.length ((B.map (·.ts)).map zcr) (vs.map (zfy (B.map (·.ts)) (H.map (·.1)))) S h) :
    zyp W fix eb db nD nI nV N st ixs vws H B w7 ⟨VB,PB,mb,n,H,B,vs,xs,f⟩:=by
  have h6:=h.below hF hb
  have hb4:=hQF.ok.b4
  have h1:=hF.dl
  have h2:=hF.b
  have h3:=hF.h
  have h4:=hF.v
  have h5:=hF.bh
  have h7:=h6.big
  have hmc:=h6.map.notC
  have hE7:=h6.eng.asideM hk7 hmc (fun hq=>by have:=hF.fl _ hq;have:=hF.m0;omega) (by have:=hE0.rep.inn;have:=hE0.eb3;have:=hF.m0;omega) (fun nm R hR=>by have:=hE0.rep.inr nm R hR;have:=hF.m0;omega) (fun nm v hv=>by have:=(hE0.vw nm v hv).1.map.lt;have:=hF.m0;omega)
  have hvm:VB≠mb:=fun e=>by
    have:=h6.vb
    rw [e] at this
    exact hmc _ _ _ this
  have hivm:∀ g,iv.ownBlock=some g→g≠mb:=fun g e e'=>by
    obtain ⟨cur,hc⟩:=zde h6.iv e
    rw [e'] at hc
    exact hmc _ _ _ hc
  have hT:∀ k,base≤k∧k<hi→w7.heap[k]? = w6.heap[k]?:=fun k hk=>hk7.blk k (by omega) (fun e=>by rcases hF.m with h|h <;> omega)
  have hvb7:w7.heap[VB]? = some (.cells #[.pointer (some ⟨PB,0,none⟩),iv,.int .i64 H.length,.map (some mb)] 89 (0,0)):=(hk7.blk VB (by omega) hvm).trans h6.vb
  have hiv7:w7.ownsRow (SB+1) 97 1 iv B.length (zu4 xs):=zq3 h6.iv fun g hg=>hk7.blk g (zu1 h6.iv hg) (hivm g hg)
  rw [← h.xl] at hiv7
  have hk7s:=hk7.size
  have hbs:=hb.size
  have hks:=h.keep.size
  refine ⟨⟨ixk,nIk,fun b=>(base≤b∧b<hi)∨b=VB∨iv.ownBlock=some b,hE7,by omega,fun b hb'=>?_,⟨⟨iv,hvb7,fun w hw=>?_⟩,.inr (.inl rfl),⟨base,(h6.plan.keep hT).imp fun k hk=>.inl hk⟩,hp,hQF,h.xl,h.xa,hM,?_⟩,fun key x hx=>?_,h.inc,fun key y hy=>(h.new key y hy).imp id fun ⟨a,b⟩=>⟨by omega,fun g hg=>by have:=b g hg;omega⟩⟩,fun L hL q=>?_,⟨rfl,rfl⟩,hF.m0,by show W.heap.size≤VB;omega,hn,?_⟩
  · rcases hb' with h8|rfl|h8
    · exact ⟨by omega,by omega⟩
    · exact ⟨by omega,by omega⟩
    · have:=zb6 h6.iv h8
      have:=zu1 h6.iv h8
      exact ⟨by omega,by omega⟩
  · exact zxu (zq3 hiv7 fun g hg=>hw g (.inr (.inr hg)))
  · rintro (h8|h8|h8)
    · have:base≤mb∧mb<hi:=h8
      rcases hF.m with h|h <;> omega
    · exact hvm h8.symm
    · exact hivm _ h8 rfl
  · obtain ⟨_,_,R,hR,hIV⟩:=hE7.idx key x hx
    obtain ⟨⟨bv,hXb,_⟩,vals,hvo,_⟩:=hIV.io
    have hloc:(x.XB<W.heap.size∨SB<x.XB)∧∀ g,x.rv.ownBlock=some g→g<W.heap.size∨SB<g:=by
      rcases h.new key x hx with ho|⟨ho1,ho2⟩
      · obtain ⟨_,_,R',_,hIV'⟩:=hE0.idx key x ho
        obtain ⟨⟨bv',hXb',_⟩,vals',hvo',_⟩:=hIV'.io
        exact ⟨.inl (Array.getElem?_eq_some_iff.1 hXb').1,fun g hg=>.inl (zu1 hvo' hg)⟩
      · exact ⟨.inr ho1,fun g hg=>.inr (ho2 g hg)⟩
    refine ⟨?_,fun g hg=>?_⟩
    · rintro (h8|h8|h8)
      · rcases hloc.1 with h9|h9 <;> omega
      · rw [h8,hvb7] at hXb
        simp at hXb
      · obtain ⟨cur,hc⟩:=zde hiv7 h8
        rw [hc] at hXb
        simp at hXb
    · obtain ⟨cur,hc⟩:=zde hvo hg
      rintro (h8|h8|h8)
      · rcases hloc.2 g hg with h9|h9 <;> omega
      · rw [h8,hvb7] at hc
        simp at hc
      · obtain ⟨cur',hc'⟩:=zde hiv7 h8
        rw [hc'] at hc
        simp at hc
  · show BitVec.ofInt 64 (f q)=_
    rw [hf q]
    exact ygi hQF hp (N:=N) (by omega) h.good (fun i hi=>(h.sn i hi).1) hL q
  · refine ⟨hk7.os.trans h6.keep.os,hk7.tape.trans h6.keep.tape,hk7.output.trans h6.keep.output,Nat.le_trans h6.keep.size hk7.size,fun q hq hx=>?_⟩
    have:=h6.keep.size
    exact (hk7.blk q (by omega) (by have:=hF.m0;omega)).trans (h6.keep.blk q hq hx)
end
theorem zxj (QB:Nat) (H:List (Nat×Nat)) (B:List zbb) (o0:ByteArray) (W:World) {fix:Nat→Prop} {eb db nD nI nV N:Nat} {st:St} {ixs:IxS} {vws:VwS} (hE:EngV W fix eb db nD nI nV N st ixs vws) (hQ:zii W QB H B) (hF:zdq st H B) (hord:o0=⟨#[]⟩∨(zaz o0).Perm (zbl (B.map (·.ts)))) (hRn:∀ nm R,st nm=some R→R.n≤N) (hN:N≤10000) (hN1:1≤N) (hnI:nI≤100000) :
    Calls Tryz.prog 64 #[.pointer (some ⟨eb,0,none⟩),.pointer (some ⟨QB,0,none⟩),.string o0] W fun e w'=>∃ v,e=.returned (.pointer (some ⟨v.VB,0,none⟩))∧zyp W fix eb db nD nI nV N st ixs vws H B w' v:=by
  obtain ⟨hdv,bv,hblk,hhead,_⟩:=hQ.blk
  obtain ⟨ha,hcap,rfl,hh⟩:=hhead
  have hB4:=hF.ok.b4
  have hH4:=hF.ok.h4
  have hnp:=fun W' (h:Below W.heap.size W W')=>zxi QB H B o0 W' (hQ.below h) hF.ok (fun a ha=>by have:=hF.nm a ha;omega) hord
  have hmm:=@run_makeMap Tryz.prog
  have q0:W.cell? ⟨QB,0,none⟩=some (.slice ha H.length hcap):=zab hblk 0
  have hQl:QB<W.heap.size:=(Array.getElem?_eq_some_iff.1 hblk).1
  have Hnp:=zac hnp
  have HE:=zac hE
  have HF:=zac hF
  have HRn:=zac hRn
  clear hnp hE hF hQ hblk hh hord hRn
  go_enter Tryz.func64,Tryz.ntmps64
  go_upto_region 1 with fail
  go_cut [7] from 12 to 22 (fun s7 wx=>∃ VB PB mb base hi vs,s7=.pointer (some ⟨VB,0,none⟩)∧NvS W wx VB PB mb base hi H B vs)
  case first =>
    go_region_with (first
      | (go_at_call 105;refine ((zaa Hnp) _ ?_).mono ?_;exact zav _ _;rintro e w1 ⟨PB,vs,rfl,hp,hP,hb1⟩;have r0:w1.cell? ⟨QB,0,none⟩=some (.slice ha H.length hcap):=(hb1.cell (p:=⟨QB,0,none⟩) hQl).trans q0;have r1:(w1.alloc (.map #[] 0)).cell? ⟨QB,0,none⟩=some (.slice ha H.length hcap):=(Below.cell ((Below.refl w1.heap.size w1).alloc (Nat.le_refl _) (.map #[] 0)) (p:=⟨QB,0,none⟩) (Nat.lt_of_lt_of_le hQl hb1.size)).trans r0;have Hfin:=zac (yd1 (zav W.heap.size W) hb1 hp hP);clear hp hP hb1)
      | (go_at_call 105;refine ((zaa Hnp) _ ?_).mono ?_;exact (zav _ _).alloc (Nat.le_refl _) _;rintro e w1 ⟨PB,vs,rfl,hp,hP,hb1⟩;have r0:w1.cell? ⟨QB,0,none⟩=some (.slice ha H.length hcap):=(hb1.cell (p:=⟨QB,0,none⟩) (by simp;omega)).trans ((Below.cell ((zav W.heap.size W).alloc (Nat.le_refl _) (.map #[] 0)) (p:=⟨QB,0,none⟩) hQl).trans q0);have Hfin:=zac (ya0 (zav W.heap.size W) hb1 hp hP);clear hp hP hb1))
    all_goals
      go_wp2_with fail
      go_meet
      case rel=>exact ⟨_,_,_,_,_,_,rfl,zaa Hfin⟩
  case rest =>
    obtain ⟨VB,PB,mb,base,hi,vs,rfl,hS⟩:=hcut
    clear q0 Hnp hmm
    obtain ⟨kv,hkc,hkf⟩:=hS.kx
    have hO:=zv7.of_perm hS.ord
    have hatt:∀ a∈B,∀ j,j<a.ts.length→zb4 a.ts j≠0→zb4 a.ts j∈vs:=fun a ha' j hj h0=>hS.ord.mem_iff.2 (zdm.2 ⟨h0,ze1.2 ⟨a.ts,List.mem_map.2 ⟨a,ha',rfl⟩,a.ts[j]?.getD (0,0),by simp [hj],rfl⟩⟩)
    have hcl:∀ a∈B,zf7 a.ts vs=[(zhp vs a).c0,(zhp vs a).c1,(zhp vs a).c2]∧zm9 (zhp vs a).c0 (zhp vs a).c1 (zhp vs a).c2:=fun a ha'=>zon ((zaa HF).ok.t3 a ha') hO.nd hO.nz (hatt a ha')
    have hKf:zic (fun b=>base≤b∧b<hi) (fun w=>yb3 w kv vs B) wc:=fun w hw=>zw8 (fun a ha'=>by rw [(hcl a ha').1];rfl) (hkf w hw)
    obtain ⟨ka,kc,rfl,hkat⟩:=hKf.now
    obtain ⟨SB,hSBe⟩:∃ SB,SB=wc.heap.size:=⟨_,rfl⟩
    obtain ⟨w2,hw2⟩:∃ w2,w2=wc.alloc (.cells (zag (fun _=>⟨none,0,0⟩) (fun _=>0)) 192):=⟨_,rfl⟩
    have hb2:Below wc.heap.size wc w2:=by rw [hw2];exact (Below.refl _ _).alloc (Nat.le_refl _) _
    have hbW:Below W.heap.size W w2:=hS.low.trans (hb2.mono hS.low.size)
    have hVl:VB<wc.heap.size:=(Array.getElem?_eq_some_iff.1 hS.blk).1
    have hml:=hS.map.lt
    have hNF:NvF W fix db VB mb SB base hi:=by
      have hbh:base≤hi:=by
        rcases Nat.lt_or_ge hi base with h|h
        · exfalso
          obtain ⟨kv',nv',sv',n1,n2,hPB',_⟩:=hS.plan.now.ex
          have hat:=hS.plan.now.at_
          have hw0:=hS.plan ⟨#[],wc.tape,wc.drawn,wc.os,wc.output⟩ (fun k hk=>by omega)
          obtain ⟨kv',nv',sv',n1,n2,hPB',_⟩:=hw0.ex
          simp at hPB'
        · exact h
      obtain ⟨D,hD,_⟩:=(zaa HE).imap
      exact ⟨(zaa HE).flt,hD.lt,hS.hb,hS.hv,hS.hm,hS.hm0,by omega,by omega,hbh⟩
    have hT:∀ k,base≤k∧k<hi→w2.heap[k]? = wc.heap[k]?:=fun k hk=>hb2.block k (by have:=hNF.h;omega)
    have hJ0:NvJ W fix eb db nD nV N st ixs vws VB PB mb SB base hi H B vs (.slice ka B.length kc) 0 0 w2 ixs nI [] (.slice none 0 0) (fun _=>⟨none,0,0⟩) (fun _=>⟨[],0⟩):=
      ⟨(zaa HE).below hbW,fun _ _ h=>h,fun _ _ h=>.inl h,rfl,fun i hi=>absurd hi (Nat.not_lt_zero _),fun i hi=>absurd hi (Nat.not_lt_zero _),fun i _=>⟨rfl,rfl⟩,zan hb2 hS.blk,World.ownsRow_nil _ _ _ _,by rw [hw2,hSBe];exact zae _ _ _ rfl,hKf.keep hT,hS.plan.keep hT,hS.map.kept (hb2.block _ hml),KeepX.ofBelow hbW,by rw [hw2,hSBe];simp⟩
    have c0:w2.cell? ⟨VB,0,none⟩=some (.pointer (some ⟨PB,0,none⟩)):=zab (zan hb2 hS.blk) 0
    have c1:w2.cell? ⟨PB,0,none⟩=some (.slice ka B.length kc):=(hb2.cell (World.block_lt_of_cell? wc _ hkc)).trans hkc
    have Hkeys:=zac (ygq PB _ w2 c1)
    have HJ0:=zac hJ0
    have HNF:=zac hNF
    have Hcl:=zac hcl
    have Hord:=zac hS.ord
    have HSBe:=zac hSBe
    clear hS hkc hkf hO hatt hcl hKf hkat hb2 hbW hVl hml hNF hT hJ0 c1 hSBe
    rw [hw2] at c0
    unfold zag at hw2 c0
    go_wp2_with (first|(go_at_call 106;fail))
    rw [← hw2]
    refine (zaa Hkeys).mono ?_
    rintro e w3 ⟨rfl,hw3⟩
    rw [hw3]
    clear hw3 hw2 c0
    have hSBe:=zaa HSBe
    rw [← hSBe]
    clear hSBe
    go_wp2
    go_loopw [29] (fun i wr=>∃ k:Nat,k≤B.length∧i=.int .i64 k∧∃ ixk nIk xs iv svk S,nIk≤nI+k∧NvJ W fix eb db nD nV N st ixs vws VB PB mb SB base hi H B vs (.slice ka B.length kc) k k wr ixk nIk xs iv svk S) (fun i _=>B.length - (intOf i).toNat)
    case atStart=>exact ⟨0,Nat.zero_le _,rfl,ixs,nI,[],_,_,_,Nat.le_refl _,zaa HJ0⟩
    case round =>
      obtain ⟨k,hk,rfl,ixk,nIk,xs,iv,svk,S,hnk,hJ⟩:=hrel
      by_cases hlt:k<B.length
      · have hkx:(k:Int)<(B.length:Int):=by omega
        have hk4:(k:Int)<4:=by omega
        obtain ⟨ka',kc',hke,hkat⟩:=hJ.keys.now
        injection hke with hke1 hke2 hke3
        subst hke1
        obtain ⟨b,rfl,hcell⟩:=hkat k hlt
        have hmem:B[k]?.getD zat∈B:=by simp [hlt]
        obtain ⟨hcols,hcp⟩:=(zaa Hcl) _ hmem
        have hnm8:=(zaa HF).nm _ hmem
        obtain ⟨R,hR,_⟩:=(zaa HF).rel _ hmem
        obtain ⟨at_,hat⟩:∃ at_,at_=B[k]?.getD zat:=⟨_,rfl⟩
        obtain ⟨kq,hkq⟩:∃ kq,kq=zhp vs (B[k]?.getD zat):=⟨_,rfl⟩
        have hknm:kq.nm=at_.nm:=by rw [hkq,hat];rfl
        rw [← hat] at hR hcell hnm8 hcols
        rw [← hkq] at hcp
        have hcols':zf7 at_.ts vs=[kq.c0,kq.c1,kq.c2]:=by rw [hkq,hat];rw [hat] at hcols;exact hcols
        have u0:wr.cell? ⟨b,k*4,none⟩=some (.string kq.nm):=by have:=hcell 0 (by omega);rw [hknm,show k*4=k*4+0 by omega,this];simp [ydl]
        have u1:wr.cell? ⟨b,k*4+1,none⟩=some (.int .i64 kq.c0):=by have:=hcell 1 (by omega);rw [this];simp [ydl,hcols']
        have u2:wr.cell? ⟨b,k*4+2,none⟩=some (.int .i64 kq.c1):=by have:=hcell 2 (by omega);rw [this];simp [ydl,hcols']
        have u3:wr.cell? ⟨b,k*4+3,none⟩=some (.int .i64 kq.c2):=by have:=hcell 3 (by omega);rw [this];simp [ydl,hcols']
        rw [← hknm] at hR hnm8
        have hwk:WfK kq:=⟨by omega,hcp.h0,hcp.h1,hcp.h2⟩
        obtain ⟨wA,hwA⟩:∃ wA,wA=wr.alloc (.cells #[.string kq.nm,.int .i64 kq.c0,.int .i64 kq.c1,.int .i64 kq.c2] 96):=⟨_,rfl⟩
        have hbA:Below wr.heap.size wr wA:=by rw [hwA];exact (Below.refl _ _).alloc (Nat.le_refl _) _
        have hJA:=hJ.below (zaa HNF) hbA
        have gA:wA.heap[wr.heap.size]? = some (.cells #[.string kq.nm,.int .i64 kq.c0,.int .i64 kq.c1,.int .i64 kq.c2] 96 (0,0)):=by rw [hwA];exact zae _ _ _ rfl
        have v0:wA.cell? ⟨wr.heap.size,0,none⟩=some (.string kq.nm):=zab gA 0
        have v1:wA.cell? ⟨wr.heap.size,1,none⟩=some (.int .i64 kq.c0):=zab gA 1
        have v2:wA.cell? ⟨wr.heap.size,2,none⟩=some (.int .i64 kq.c1):=zab gA 2
        have v3:wA.cell? ⟨wr.heap.size,3,none⟩=some (.int .i64 kq.c2):=zab gA 3
        have hidx:=zw2 wA hJA.eng kq R hwk hR hcp ((zaa HRn) _ _ hR) (by omega) (by omega)
        have Hidx:=zac hidx
        have HJA:=zac hJA
        have Hkq:=zac hkq
        have hnk':nIk≤nI+k:=hnk
        clear hidx hJA hJ hcell hat hkq hcols hcols' hkat gA hbA hmem hke2 hke3 hwk hcp hnm8 hR hknm hnk
        rw [hwA] at v0 v1 v2 v3
        go_wp2_with (first|(go_at_call 107;fail))
        rw [← hwA]
        refine (zaa Hidx).mono ?_
        rintro e w1 ⟨x,ixk',nIk',rfl,hE1,hx1,hinc,hnew,hnI1,hK1⟩
        clear hwA v0 v1 v2 v3 u0 u1 u2 u3 Hidx
        have hJ1:=(zaa HJA).idx (zaa HNF) hE1 hinc hnew hK1
        obtain ⟨w2,hw2⟩:∃ w2,w2=w1.alloc (.cells #[.pointer (some ⟨x.XB,0,none⟩)] 97):=⟨_,rfl⟩
        have hb2:Below w1.heap.size w1 w2:=by rw [hw2];exact (Below.refl _ _).alloc (Nat.le_refl _) _
        have hJ2:=hJ1.below (zaa HNF) hb2
        have y1:w1.cell? ⟨VB,1,none⟩=some iv:=zab hJ1.vb 1
        obtain ⟨i,hi0,hz0,hz1,hz2⟩:=info_parts (show (Tryz.prog.info? 97).map (fun i=>(i.zero,i.size,i.bytes))=some (some (.pointer none),1,8) by kernel_rfl)
        have hnew2:∀ j u,[Value.pointer (some ⟨x.XB,0,none⟩)][j]? = some u→w2.cell? ((⟨w1.heap.size,0,none⟩:Addr).add j)=some u:=by rw [hw2];exact zg6 w1 _ 97
        obtain ⟨pa,pc,rfl,_⟩:=zak hJ2.iv
        have hbig:=hJ2.big
        have HJ2:=zac hJ2
        have Hnew2:=zac hnew2
        rw [zaa Hkq] at hx1
        have Hx1:=zac hx1
        clear hJ1 hJ2 hE1 hinc hnew hK1 hb2 hnew2 hx1 HJA
        go_wp2_with (first
          | (rw [← hw2]
             refine zby _ rfl (.tmp 41) (.tmp 43) 85 rfl (SB+1) 97 i _ 1 8 Tryz.underlying85 hi0 hz0 hz1 hz2 rfl (by decide) _ _ _ rfl (zaa HJ2).iv ⟨w1.heap.size,0,none⟩ 1 [.pointer (some ⟨x.XB,0,none⟩)] rfl rfl (zaa Hnew2) (by simp [Value.oneCell']) (by unfold maxLen;omega) (by omega) hbig ?_
             intro sv' w3 hrow3 hg3 hsh3
             obtain ⟨hvb3,hJ3⟩:=(zaa HJ2).app (zaa HNF) (zaa Hx1) hg3 hrow3
             have y2:w3.cell? ⟨VB,1,none⟩=some (.slice pa k pc):=zab hvb3 1
             have y3:w3.frozen? ⟨VB,1,none⟩=false:=zad hvb3 1
             obtain ⟨sa,sc,rfl⟩:=zgr hrow3
             have HJ3:=zac hJ3
             clear hrow3 hg3 hsh3 hvb3 hJ3)
          | (go_at_call 108;fail))
        obtain ⟨w4,hw4⟩:∃ w4,w4=w3.setCell ⟨VB,1,none⟩ (.slice (some ⟨sa,0,none⟩) (k+1) sc):=⟨_,rfl⟩
        have hJ3:=zaa HJ3
        rw [← hw4] at hJ3 ⊢
        obtain ⟨_,_,R',_,hIV⟩:=hJ3.eng.idx _ _ (zaa Hx1)
        obtain ⟨⟨bv,hXb,_⟩,vals,hvo,hv2⟩:=hIV.io
        have hold:=zxo x.XB _ _ _ x.rv bv x.rs w4 hXb (hv2.runsAt hvo) hIV.good.full (fun r hr=>by have:=zs7 x.rs r hr;have:=hIV.tot;omega) (by have:=zli x.rs hIV.good.full;have:=hIV.tot;omega)
        clear hw4 hIV hXb hvo hv2 HJ3 y1 y2 y3 hw2
        refine hold.mono ?_
        rintro e w5 ⟨svn,vals',rfl,ho5,hv5,hb5,_⟩
        obtain ⟨qa,qn,qc,rfl⟩:∃ qa qn qc,svn=.slice qa qn qc:=by obtain ⟨p,c,h,_⟩:=zak ho5;exact ⟨_,_,_,h⟩
        have hJ5:=hJ3.src (zaa HNF) (zaa Hx1) (by omega) hb5 ho5 hv5
        have hsb5:=zan hb5 hJ3.sb
        obtain ⟨z0,z1⟩:=zaf hsb5 k (by omega)
        have z2:w5.frozen? ⟨SB,k*2,none⟩=false:=zad hsb5 _
        have z3:w5.frozen? ⟨SB,k*2+1,none⟩=false:=zad hsb5 _
        have HJ5:=zac hJ5
        clear hJ5 hJ3 hsb5 ho5 hv5 hb5 hold
        go_wp2
        exact ⟨⟨k+1,by omega,by simp,ixk',nIk',_,_,_,_,by omega,zaa HJ5⟩,by simp [intOf];omega⟩
      · have hke:k=B.length:=by omega
        subst hke
        have hkx:¬ (B.length:Int)<(B.length:Int):=by omega
        obtain ⟨w6,hw6⟩:∃ w6,w6=(wr.drew.alloc (.cells #[.pointer (some ⟨PB,0,none⟩)] 84)).alloc (.cells (zag svk (fun _=>0)) 192):=⟨_,rfl⟩
        have hb6:Below wr.heap.size wr w6:=by rw [hw6];exact ((zav _ _).alloc (Nat.le_refl _) _).alloc (by show _≤(wr.drew.alloc _).heap.size;simp) _
        have hJ6:=hJ.below (zaa HNF) hb6
        have hO:=zv7.of_perm (zaa Hord)
        have hpl:=hJ6.plan.now.planAt hO (by simpa using hH4) hB4
        have hpok:=hJ.pok (zaa HF) (zaa Hord) hN
        have hcnt:=hJ.cnt (zaa HF) (zaa Hord) hN hN1
        have hN4:N ^ 4≤10000 ^ 4:=Nat.pow_le_pow_left hN 4
        have hz:(fun i=>((S i).c:Int))=fun _=>0:=by
          funext i
          rcases Nat.lt_or_ge i B.length with hi'|hi'
          · obtain ⟨x,_,b,_⟩:=hJ.sa i hi';rw [b];rfl
          · rw [(hJ.sn i hi').1];rfl
        have hsz6:wr.heap.size+1<w6.heap.size:=by rw [hw6];show _<((wr.drew.alloc _).alloc _).heap.size;simp
        have hadd:=zzo VB mb 0 (.pointer (some ⟨PB,0,none⟩)) iv (.int .i64 H.length) (fun _=>0) PB B.length _ _ svk S wr.heap.size (wr.heap.size+1) (N ^ 4) w6 hJ6.vb hJ6.map hpl hpok (fun i hi'=>(hJ.runs i hi').below hb6) (by rw [hw6];exact (Below.heap_alloc _ _ _ (by show wr.heap.size<(wr.drew.alloc _).heap.size;simp)).trans (zae _ _ _ rfl)) (by rw [hz,hw6];exact zae _ _ _ (by simp)) hcnt (by omega)
        have hpall:=zso PB svk (fun _=>0) wr.drew
        rw [← hw6] at hpall
        have a0:wr.cell? ⟨VB,0,none⟩=some (.pointer (some ⟨PB,0,none⟩)):=zab hJ.vb 0
        have p0:wr.cell? ⟨SB,0,none⟩=some _:=(zaf hJ.sb 0 (by omega)).1
        have p1:wr.cell? ⟨SB,1,none⟩=some _:=(zaf hJ.sb 0 (by omega)).2
        have p2:wr.cell? ⟨SB,2,none⟩=some _:=(zaf hJ.sb 1 (by omega)).1
        have p3:wr.cell? ⟨SB,3,none⟩=some _:=(zaf hJ.sb 1 (by omega)).2
        have p4:wr.cell? ⟨SB,4,none⟩=some _:=(zaf hJ.sb 2 (by omega)).1
        have p5:wr.cell? ⟨SB,5,none⟩=some _:=(zaf hJ.sb 2 (by omega)).2
        have p6:wr.cell? ⟨SB,6,none⟩=some _:=(zaf hJ.sb 3 (by omega)).1
        have p7:wr.cell? ⟨SB,7,none⟩=some _:=(zaf hJ.sb 3 (by omega)).2
        have hdone:=fun (w7:World) (ys:List (H4×Int)) (hys:∀ h,zrj ys h=zte B.length ((B.map (·.ts)).map zcr) (vs.map (zfy (B.map (·.ts)) (H.map (·.1)))) S h) (hM:zgv w7 mb (0+N ^ 4) (zks (fun _=>0) ys)) (hK:KeepX (fun q=>q=mb) w6 w7)=>hJ.done (zaa HNF) (zaa HF) (zaa Hord) (zaa HE) hnk hN hb6 hK hM (by omega) (fun h=>by rw [zn1,hys h];simp)
        have Hdone:=zac hdone
        have Hadd:=zac hadd
        have Hpall:=zac hpall
        clear hdone hadd hpall hJ hJ6 hO hpl hpok hcnt hz hb6 hw6 hN4 hsz6
        unfold zag at Hpall
        go_wp2_with fail
        go_region_with (first
          | (go_at_call 110;refine (zaa Hpall).mono ?_;rintro e wx ⟨rfl,hwx⟩;rw [hwx];clear hwx)
          | (go_at_call 109;refine (zaa Hadd).mono ?_;rintro e w7 ⟨rfl,⟨ys,hys,hM7⟩,hK7⟩;have Hfin:=zac ((zaa Hdone) w7 ys hys hM7 hK7);clear hys hM7 hK7))
        all_goals
          go_wp2
          go_ret
          exact ⟨_,rfl,zaa Hfin⟩
end Go.Proofs.YtoifcnidhfnapaaGreatDoor
