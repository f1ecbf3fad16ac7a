import Derived.Test.YtoifcnidhfnapaaGreatDoorB28
set_option linter.unusedVariables false
set_option linter.unusedSimpArgs false
set_option maxRecDepth 100000
set_option maxHeartbeats 16000000
namespace Go.Proofs.YtoifcnidhfnapaaGreatDoor
open Go.RowKit Go.Maps Go.Sort Go.Shelf
theorem yaj {xs:List Nat} {c k:Nat} (hk:k<xs.length) (hlt:∀ j,j<k→xs[j]?.getD 0≠c∨xs.length≤j) (h:xs[k]?.getD 0=c):zl8 xs c=k:=by
 unfold zl8
 have:xs.findIdx? (fun v=>decide (v=c))=some k:=by
  rw [List.findIdx?_eq_some_iff_getElem]
  refine ⟨hk,by simpa [hk] using h,fun j hj=>?_⟩
  rcases hlt j hj with h1|h1
  ·have:j<xs.length:=by omega
   simpa [this] using h1
  ·omega
 rw [this]
theorem ydf {xs:List Nat} {c:Nat} (h:∀ j,j<xs.length→xs[j]?.getD 0≠c∨xs.length≤j):zl8 xs c=-1:=by
 rw [zol]
 intro hc
 obtain ⟨j,hj,rfl⟩:=List.getElem_of_mem hc
 rcases h j hj with h1|h1
 ·simp [hj] at h1
 ·omega
theorem zzv (a:Option Addr) (cap:Nat) (xs:List Nat) (c:Nat) (W:World) (hx:∀ j,j<xs.length→∃ b o,a=some ⟨b,o,none⟩∧W.cell? ⟨b,o+j,none⟩=some (.int .u8 (xs[j]?.getD 0:Nat))) (hl:xs.length≤1000) :
  Calls Tryz.prog 220 #[.slice a xs.length cap,.int .u8 c] W fun e w'=>e=.returned (.int .i64 (zl8 xs c))∧w'=W:=by
 have Hx:=zac hx
 clear hx
 go_enter Tryz.func220,Tryz.ntmps220
 go_wp2
 go_loopw [8] (fun i wr=>∃ k:Nat,k≤xs.length∧i=.int .i64 k∧(∀ j,j<k→xs[j]?.getD 0≠c∨xs.length≤j)∧wr=W) (fun i _=>xs.length - (intOf i).toNat)
 case atStart=>exact ⟨0,Nat.zero_le _,rfl,fun j hj=>absurd hj (Nat.not_lt_zero _),rfl⟩
 case round =>
  obtain ⟨k,hk,rfl,hne,hwr⟩:=hrel
  have hq:=hwr.symm
  subst hq
  by_cases hlt:k<xs.length
  ·have hkz:(k:Int)<(xs.length:Int):=by omega
   obtain ⟨b,o,rfl,h0⟩:=(zaa Hx) k hlt
   obtain ⟨y,hy⟩:∃ y,y=xs[k]?.getD 0:=⟨_,rfl⟩
   rw [← hy] at h0
   by_cases he:c=y
   ·subst he
    have Hd:Hid (zl8 xs c=k):=yaj hlt hne hy.symm
    clear hne hy
    go_wp2
    go_ret
    exact ⟨by rw [zaa Hd];rfl,rfl⟩
   ·have hez:¬ (c:Int)=(y:Int):=by omega
    have Hn:Hid (∀ j,j<k+1→xs[j]?.getD 0≠c∨xs.length≤j):=fun j hj=>by
     by_cases e:j=k
     ·subst e;left;rw [← hy];exact fun e=>he e.symm
     ·exact hne j (by omega)
    clear hne hy
    go_wp2
    exact ⟨⟨k+1,by omega,by simp,zaa Hn,by first|rfl|trivial⟩,by simp [intOf];omega⟩
  ·have hkz:¬ (k:Int)<(xs.length:Int):=by omega
   have hke:k=xs.length:=by omega
   subst hke
   have Hd:Hid (zl8 xs c=-1):=ydf hne
   clear hne
   go_wp2
   go_ret
   exact ⟨by rw [zaa Hd];rfl,rfl⟩
theorem zrs (a:Option Addr) (cap:Nat) (xs:List Nat) (c:Nat) (W:World) (hx:∀ j,j<xs.length→∃ b o,a=some ⟨b,o,none⟩∧W.cell? ⟨b,o+j,none⟩=some (.int .u8 (xs[j]?.getD 0:Nat))) (hl:xs.length≤1000) :
  Calls Tryz.prog 191 #[.slice a xs.length cap,.int .u8 c] W fun e w'=>e=.returned (.bool (decide (c∈xs)))∧w'=W:=by
 have H:=zac (zzv a cap xs c W hx hl)
 have hr:=zqr xs c
 have hn:=@zol xs c
 clear hx
 by_cases hc:c∈xs
 ·have h0:(0:Int)≤zl8 xs c:=by
   have:zl8 xs c≠-1:=fun e=>hn.1 e hc
   omega
  rw [decide_eq_true hc]
  clear hn hr
  go_enter Tryz.func191,Tryz.ntmps191
  go_wp2_with (first|(go_at_call 220;refine (zaa H).mono ?_;rintro e w1 ⟨rfl,rfl⟩))
  go_ret
  exact ⟨rfl,rfl⟩
 ·rw [hn.2 hc] at H
  rw [decide_eq_false hc]
  clear hn hr
  go_enter Tryz.func191,Tryz.ntmps191
  go_wp2_with (first|(go_at_call 220;refine (zaa H).mono ?_;rintro e w1 ⟨rfl,rfl⟩))
  go_ret
  exact ⟨rfl,rfl⟩
def ybt (acc:List Nat) (t:Trm):List Nat:=if t.1=0∨t.1∈acc then acc else acc ++ [t.1]
def zep (acc:List Nat) (ts:List Trm):List Nat:=ts.foldl ybt acc
def zbl (A:List (List Trm)):List Nat:=A.foldl zep []
theorem ybq (acc:List Nat) (ts:List Trm) (j:Nat) (hj:j<ts.length):zep acc (ts.take (j+1))=ybt (zep acc (ts.take j)) (ts[j]?.getD (0,0)):=by
 unfold zep
 rw [List.take_succ_eq_append_getElem hj,List.foldl_append]
 simp [hj]
theorem ybp (A:List (List Trm)) (k:Nat) (hk:k<A.length):zbl (A.take (k+1))=zep (zbl (A.take k)) (A[k]?.getD []):=by
 unfold zbl
 rw [List.take_succ_eq_append_getElem hk,List.foldl_append]
 simp [hk]
theorem yfv (acc:List Nat) (t:Trm):(ybt acc t).length≤acc.length+1:=by
 unfold ybt
 split
 ·omega
 ·simp
theorem zvx:∀ (ts:List Trm) (acc:List Nat),(zep acc ts).length≤acc.length+ts.length
 | [],acc=>by simp [zep]
 | t :: ts,acc=>by
  have h1:=zvx ts (ybt acc t)
  have h2:=yfv acc t
  show (zep (ybt acc t) ts).length≤_
  simp only [List.length_cons]
  omega
theorem zlm (A:List (List Trm)) (h3:∀ ts∈A,ts.length≤3):(zbl A).length≤3*A.length:=by
 have:∀ (A:List (List Trm)) (acc:List Nat),(∀ ts∈A,ts.length≤3)→(A.foldl zep acc).length≤acc.length+3*A.length:=by
  intro A
  induction A with
  | nil=>intro acc _;simp
  | cons ts A ih =>
   intro acc h
   have h1:=ih (zep acc ts) fun t ht=>h t (List.mem_cons_of_mem _ ht)
   have h2:=zvx ts acc
   have h4:=h ts (List.mem_cons_self ..)
   simp only [List.foldl_cons,List.length_cons]
   omega
 have:=this A [] h3
 simpa [zbl] using this
theorem yfw {acc:List Nat} {t:Trm} {v:Nat}:v∈ybt acc t↔v∈acc∨(t.1=v∧v≠0):=by
 unfold ybt
 by_cases h:t.1=0∨t.1∈acc
 ·rw [if_pos h]
  constructor
  ·exact .inl
  ·rintro (h1|⟨rfl,h1⟩)
   ·exact h1
   ·exact h.resolve_left h1
 ·rw [if_neg h,List.mem_append,List.mem_singleton]
  rw [not_or] at h
  constructor
  ·rintro (h1|rfl)
   ·exact .inl h1
   ·exact .inr ⟨rfl,h.1⟩
  ·rintro (h1|⟨rfl,_⟩)
   ·exact .inl h1
   ·exact .inr rfl
theorem zzs {acc:List Nat} {t:Trm} (h:acc.Nodup):(ybt acc t).Nodup:=by
 unfold ybt
 split
 ·exact h
 ·rename_i hn
  rw [not_or] at hn
  rw [List.nodup_append]
  refine ⟨h,by simp,fun a ha b hb e=>?_⟩
  simp at hb
  subst hb
  subst e
  exact hn.2 ha
theorem zvy {v:Nat}:∀ (ts:List Trm) (acc:List Nat),v∈zep acc ts↔v∈acc∨(v≠0∧∃ t∈ts,t.1=v)
 | [],acc=>by simp [zep]
 | t :: ts,acc=>by
  show v∈zep (ybt acc t) ts↔_
  rw [zvy ts,yfw]
  simp only [List.mem_cons,exists_eq_or_imp]
  constructor
  ·rintro ((h|⟨h1,h2⟩)|⟨h1,h2⟩)
   ·exact .inl h
   ·exact .inr ⟨h2,.inl h1⟩
   ·exact .inr ⟨h1,.inr h2⟩
  ·rintro (h|⟨h1,h2|h2⟩)
   ·exact .inl (.inl h)
   ·exact .inl (.inr ⟨h2,h1⟩)
   ·exact .inr ⟨h1,h2⟩
theorem zpi:∀ (ts:List Trm) (acc:List Nat),acc.Nodup→(zep acc ts).Nodup
 | [],acc,h=>h
 | t :: ts,acc,h=>zpi ts _ (zzs h)
theorem zvw {v:Nat}:∀ (A:List (List Trm)) (acc:List Nat),v∈A.foldl zep acc↔v∈acc∨(v≠0∧∃ ts∈A,∃ t∈ts,t.1=v)
 | [],acc=>by simp
 | ts :: A,acc=>by
  rw [List.foldl_cons,zvw A,zvy]
  simp only [List.mem_cons,exists_eq_or_imp]
  constructor
  ·rintro ((h|⟨h1,h2⟩)|⟨h1,h2⟩)
   ·exact .inl h
   ·exact .inr ⟨h1,.inl h2⟩
   ·exact .inr ⟨h1,.inr h2⟩
  ·rintro (h|⟨h1,h2|h2⟩)
   ·exact .inl (.inl h)
   ·exact .inl (.inr ⟨h1,h2⟩)
   ·exact .inr ⟨h1,h2⟩
theorem zpg:∀ (A:List (List Trm)) (acc:List Nat),acc.Nodup→(A.foldl zep acc).Nodup
 | [],acc,h=>h
 | ts :: A,acc,h=>zpg A _ (zpi ts acc h)
theorem zph (A:List (List Trm)):(zbl A).Nodup:=zpg A [] List.nodup_nil
theorem ze1 {A:List (List Trm)} {v:Nat}:zie A v↔∃ ts∈A,∃ t∈ts,t.1=v:=by
 unfold zie
 constructor
 ·rintro ⟨i,hi,h⟩
  obtain ⟨j,hj⟩:=List.exists_mem_of_ne_nil _ h
  obtain ⟨h1,h2⟩:=zbg.1 hj
  refine ⟨A[i]?.getD [],by simp [hi],(A[i]?.getD [])[j]?.getD (0,0),?_,h2⟩
  rw [List.getElem?_eq_getElem h1]
  exact List.getElem_mem h1
 ·rintro ⟨ts,hts,t,ht,rfl⟩
  obtain ⟨i,hi,rfl⟩:=List.getElem_of_mem hts
  obtain ⟨j,hj,rfl⟩:=List.getElem_of_mem ht
  refine ⟨i,hi,fun e=>?_⟩
  have:j∈zam (A[i]?.getD []) (A[i][j]).1:=zbg.2 ⟨by simpa [hi] using hj,by unfold zb4;simp [hi,hj]⟩
  rw [e] at this
  cases this
theorem zdm {A:List (List Trm)} {v:Nat}:v∈zbl A↔v≠0∧zie A v:=by
 unfold zbl
 rw [zvw,ze1]
 simp
theorem yan {A:List (List Trm)} {i j:Nat} (hi:i<A.length) (hj:j<(A[i]?.getD []).length):zie A (zb4 (A[i]?.getD []) j):=⟨i,hi,fun e=>by
 have:j∈zam (A[i]?.getD []) (zb4 (A[i]?.getD []) j):=zbg.2 ⟨hj,rfl⟩
 rw [e] at this
 cases this⟩
theorem zv7.of_perm {A:List (List Trm)} {vs:List Nat} (h:vs.Perm (zbl A)):zv7 A vs:=
 ⟨h.nodup_iff.2 (zph A),fun v hv=>(zdm.1 (h.mem_iff.1 hv)).1,fun v hv=>(zdm.1 (h.mem_iff.1 hv)).2,fun i hi j hj h0=>h.mem_iff.2 (zdm.2 ⟨h0,yan hi hj⟩)⟩
def zfo (xs:List Nat):List Value:=xs.map fun (x:Nat)=>Value.int .u8 (x:Int)
theorem zmx {w:World} {base:Nat} {v:Value} {xs:List Nat} (h:w.ownsRow base 5 1 v xs.length (zfo xs)):∃ a cap,v=.slice a xs.length cap∧∀ j,j<xs.length→∃ b o,a=some ⟨b,o,none⟩∧w.cell? ⟨b,o+j,none⟩=some (.int .u8 (xs[j]?.getD 0:Nat)):=by
 obtain ⟨p,c,rfl,hle,hn,hs⟩:=zak h
 refine ⟨p,c,rfl,fun j hj=>?_⟩
 cases p with
 | none=>have:=(hn rfl).1;omega
 | some ad =>
  obtain ⟨g,rfl,_,_,hc⟩:=hs ad rfl
  exact ⟨g,0,rfl,by rw [Nat.zero_add,hc _ (by omega)];simp [zfo,hj]⟩
theorem Tryz.info5:(Tryz.prog.info? 5).map (fun i=>(i.zero,i.size,i.bytes))=some (some (.int .u8 0),1,1):=by kernel_rfl
theorem zll (QB:Nat) (H:List (Nat×Nat)) (B:List zbb) (W:World) (hQ:zii W QB H B) (hO:zpt H B) :
  Calls Tryz.prog 149 #[.pointer (some ⟨QB,0,none⟩)] W fun e w'=>∃ v,e=.returned v∧w'.ownsRow W.heap.size 5 1 v (zbl (B.map (·.ts))).length (zfo (zbl (B.map (·.ts))))∧Below W.heap.size W w':=by
 obtain ⟨hdv,bv,hblk,_,hbody⟩:=hQ.blk
 obtain ⟨ba,bcap,rfl,hb⟩:=hbody
 obtain ⟨i,hi,hz0,hz1,hz2⟩:=info_parts Tryz.info5
 have c1:W.cell? ⟨QB,1,none⟩=some (.slice ba B.length bcap):=zab hblk 1
 have hB4:=hO.b4
 have Hb:=zac hb
 have HO:=zac hO
 clear hb hO hQ hblk
 go_enter Tryz.func149,Tryz.ntmps149
 go_wp2
 go_loopw [3,13] (fun uv i wr=>∃ k:Nat,k≤B.length∧i=.int .i64 k∧wr.ownsRow W.heap.size 5 1 uv (zbl ((B.map (·.ts)).take k)).length (zfo (zbl ((B.map (·.ts)).take k)))∧(zbl ((B.map (·.ts)).take k)).length≤3*k∧Below W.heap.size W wr) (fun _ i _=>B.length - (intOf i).toNat)
 case atStart=>exact ⟨0,Nat.zero_le _,rfl,by simpa [zbl,zfo] using World.ownsRow_nil _ _ _ _,by simp [zbl],Below.refl _ _⟩
 case round =>
  obtain ⟨k,hk,rfl,hown,hvl,hlow⟩:=hrel
  obtain ⟨wo,ewo⟩:∃ wo,wo=wr:=⟨_,rfl⟩
  subst ewo
  by_cases hlt:k<B.length
  ·have hkx:(k:Int)<(B.length:Int):=by omega
   obtain ⟨b,o,tv,rfl,d0,d1,d2,dt⟩:=(zaa Hb) k hlt
   have hbl:b<W.heap.size:=World.block_lt_of_cell? W _ d0
   have e0:=(hlow.cell (p:=⟨b,o+k*3,none⟩) hbl).trans d0
   have e1:=(hlow.cell (p:=⟨b,o+k*3+1,none⟩) hbl).trans d1
   have e2:=(hlow.cell (p:=⟨b,o+k*3+2,none⟩) hbl).trans d2
   have hmem:B[k]?.getD zat∈B:=by simp [hlt]
   obtain ⟨at_,hat⟩:∃ at_,at_=B[k]?.getD zat:=⟨_,rfl⟩
   have hA:(B.map (·.ts))[k]?.getD []=at_.ts:=by rw [hat];simp [hlt]
   rw [← hat] at e0 e1 dt hmem
   have ht3:=(zaa HO).t3 _ hmem
   have htl:=(zaa HO).tl _ hmem
   have hsucc:=ybp (B.map (·.ts)) k (by simpa using hlt)
   rw [hA] at hsucc
   generalize zbl ((B.map (·.ts)).take k)=acc at *
   obtain ⟨nm,pl,ts⟩:=at_
   dsimp only at *
   obtain ⟨ta,tcap,rfl,htx⟩:=dt
   obtain ⟨w1,hw1⟩:∃ w1,w1=wo.alloc (.cells #[.string nm,.int .i64 pl,.slice ta ts.length tcap] 268):=⟨_,rfl⟩
   have hlow1:Below W.heap.size W w1:=by rw [hw1];exact hlow.alloc hlow.size _
   have hown1:w1.ownsRow W.heap.size 5 1 u3 acc.length (zfo acc):=by rw [hw1];exact hown.alloc _
   have g2:w1.cell? ⟨wo.heap.size,2,none⟩=some (.slice ta ts.length tcap):=by rw [hw1];exact zab (zae _ _ _ rfl) 2
   have Hown1:=zac hown1
   have Hlow1:=zac hlow1
   have Htx:=zac htx
   have Hsucc:=zac hsucc
   have Htl:=zac htl
   clear hown hlow hown1 hlow1 htx hsucc htl hat hA hmem d0 d1 d2
   obtain ⟨pa,pc,rfl,_⟩:=zak (zaa Hown1)
   rw [hw1] at g2
   go_wp2
   rw [← hw1]
   clear hw1 g2 e0 e1 e2
   try go_wp2
   go_loopw [3,20] (fun uv i wr=>∃ j:Nat,j≤ts.length∧i=.int .i64 j∧wr.ownsRow W.heap.size 5 1 uv (zep acc (ts.take j)).length (zfo (zep acc (ts.take j)))∧(zep acc (ts.take j)).length≤3*k+j∧Below W.heap.size W wr) (fun _ i _=>ts.length - (intOf i).toNat)
   case atStart=>exact ⟨0,Nat.zero_le _,rfl,by simpa [zep] using zaa Hown1,by simp [zep];omega,zaa Hlow1⟩
   case round =>
    obtain ⟨j,hj,rfl,hown2,hvl2,hlow2⟩:=hrel
    by_cases hjl:j<ts.length
    ·have hjx:(j:Int)<(ts.length:Int):=by omega
     obtain ⟨tb,to,rfl,t0,t1⟩:=(zaa Htx) j hjl
     have htb:tb<W.heap.size:=World.block_lt_of_cell? W _ t0
     have t0':=(hlow2.cell (p:=⟨tb,to+j*2,none⟩) htb).trans t0
     have t1':=(hlow2.cell (p:=⟨tb,to+j*2+1,none⟩) htb).trans t1
     have hls:=ybq acc ts j hjl
     obtain ⟨l,hl⟩:∃ l,l=(ts[j]?.getD (0,0)).1:=⟨_,rfl⟩
     have hl256:l<256:=by rw [hl];exact (zaa Htl) _ (by simp [hjl])
     rw [← hl] at t0'
     unfold ybt at hls
     rw [← hl] at hls
     generalize zep acc (ts.take j)=ac2 at *
     generalize (ts[j]?.getD (0,0)).2=tz at t1'
     obtain ⟨w3,hw3⟩:∃ w3,w3=wr.alloc (.cells #[.int .u8 l,.int .i64 tz] 327):=⟨_,rfl⟩
     have n0:w3.cell? ⟨wr.heap.size,0,none⟩=some (.int .u8 l):=by rw [hw3];exact zab (zae _ _ _ rfl) 0
     have hown3:=hown2.alloc (.cells #[.int .u8 l,.int .i64 tz] 327)
     rw [← hw3] at hown3
     have hlow3:Below W.heap.size W w3:=by rw [hw3];exact hlow2.alloc hlow2.size _
     have hs3:w3.heap.size=wr.heap.size+1:=by rw [hw3];simp
     obtain ⟨qa,qc,rfl,hqx⟩:=zmx hown3
     by_cases hl0:l=0
     ·subst hl0
      replace hw3:w3=wr.alloc (.cells #[.int .u8 0,.int .i64 tz] 327):=hw3
      replace t0':wr.cell? ⟨tb,to+j*2,none⟩=some (.int .u8 0):=t0'
      replace n0:w3.cell? ⟨wr.heap.size,0,none⟩=some (.int .u8 0):=n0
      rw [if_pos (.inl rfl)] at hls
      have Hfin:Hid (w3.ownsRow W.heap.size 5 1 (.slice qa ac2.length qc) (zep acc (ts.take (j+1))).length (zfo (zep acc (ts.take (j+1))))∧(zep acc (ts.take (j+1))).length≤3*k+(j+1)∧Below W.heap.size W w3):=by rw [hls];exact ⟨hown3,by omega,hlow3⟩
      clear hown2 hlow2 hown3 hlow3 hls hqx t0 t1 hl
      rw [hw3] at n0
      go_wp2
      rw [← hw3]
      exact ⟨⟨j+1,by omega,by simp,zaa Hfin⟩,by simp [intOf];omega⟩
     ·have hne:¬ (l:Int)=0:=by omega
      have Hcon:=zac (zrs qa qc ac2 l w3 hqx (by omega))
      by_cases hin:l∈ac2
      ·rw [if_pos (.inr hin)] at hls
       have Hfin:Hid (w3.ownsRow W.heap.size 5 1 (.slice qa ac2.length qc) (zep acc (ts.take (j+1))).length (zfo (zep acc (ts.take (j+1))))∧(zep acc (ts.take (j+1))).length≤3*k+(j+1)∧Below W.heap.size W w3):=by rw [hls];exact ⟨hown3,by omega,hlow3⟩
       have hd:decide (l∈ac2)=true:=decide_eq_true hin
       clear hown2 hlow2 hown3 hlow3 hls hqx t0 t1 hl hin
       rw [hw3] at n0
       go_wp2_with (first|(go_at_call 191;rw [← hw3];refine (zaa Hcon).mono ?_;rintro e w5 ⟨rfl,hw5⟩;rw [hw5,hd,hw3];clear hw5))
       rw [← hw3]
       exact ⟨⟨j+1,by omega,by simp,zaa Hfin⟩,by simp [intOf];omega⟩
      ·rw [if_neg (by rw [not_or];exact ⟨hl0,hin⟩)] at hls
       have hd:decide (l∈ac2)=false:=decide_eq_false hin
       obtain ⟨w4,hw4⟩:∃ w4,w4=w3.alloc (.cells #[.int .u8 l] 5):=⟨_,rfl⟩
       have hnew:∀ j u,[Value.int .u8 l][j]? = some u→w4.cell? ((⟨wr.heap.size+1,0,none⟩:Addr).add j)=some u:=by rw [← hs3,hw4];exact zg6 w3 _ 5
       have hown4:=hown3.alloc (.cells #[.int .u8 l] 5)
       rw [← hw4] at hown4
       have hlow4:Below W.heap.size W w4:=by rw [hw4];exact hlow3.alloc hlow3.size _
       have hbs:=hlow4.size
       have Hown4:=zac hown4
       have Hlow4:=zac hlow4
       have Hnew:=zac hnew
       have Hls:=zac hls
       clear hown2 hlow2 hown3 hlow3 hown4 hlow4 hnew hls hqx t0 t1 hl hin
       rw [hw3] at n0
       go_wp2_with (first
        | (go_at_call 191;rw [← hw3];refine (zaa Hcon).mono ?_;rintro e w5 ⟨rfl,hw5⟩;rw [hw5,hd,hw3];clear hw5)
        | (rw [← hw3,← hw4];refine zby _ rfl (.tmp 34) (.tmp 37) 157 rfl W.heap.size 5 i _ 1 1 Tryz.underlying157 hi hz0 hz1 hz2 rfl (by decide) _ _ _ rfl (zaa Hown4) ⟨wr.heap.size+1,0,none⟩ 1 [.int .u8 l] rfl rfl (zaa Hnew) (by simp [Value.oneCell']) (by unfold maxLen;omega) (by omega) hbs ?_;intro sv' w5 hrow5 hg5 hsh5))
       refine ⟨⟨j+1,by omega,by simp,?_,?_,(zaa Hlow4).grown hg5 hbs (fun q hq=>zb6 (zaa Hown4) hq)⟩,by simp [intOf];omega⟩
       ·rw [zaa Hls,List.length_append]
        have e:zfo (ac2 ++ [l])=zfo ac2 ++ [.int .u8 l]:=by simp [zfo]
        rw [e]
        exact hrow5
       ·rw [zaa Hls,List.length_append]
        simp
        omega
    ·have hke:j=ts.length:=by omega
     subst hke
     rw [List.take_length] at hown2 hvl2
     obtain ⟨p,c,rfl,_⟩:=zak hown2
     have Hfin:Hid (wr.ownsRow W.heap.size 5 1 (.slice p (zep acc ts).length c) (zbl ((B.map (·.ts)).take (k+1))).length (zfo (zbl ((B.map (·.ts)).take (k+1))))∧(zbl ((B.map (·.ts)).take (k+1))).length≤3*(k+1)∧Below W.heap.size W wr):=by rw [zaa Hsucc];exact ⟨hown2,by omega,hlow2⟩
     clear hown2 hlow2
     go_wp2
     exact ⟨⟨k+1,by omega,by simp,zaa Hfin⟩,by simp [intOf];omega⟩
  ·have hke:k=B.length:=by omega
   subst hke
   have e:(B.map (·.ts)).take B.length=B.map (·.ts):=by rw [List.take_of_length_le (by simp)]
   rw [e] at hown
   obtain ⟨p,c,rfl,_⟩:=zak hown
   have Hown:=zac hown
   have Hlow:=zac hlow
   clear hown hlow
   go_wp2
   go_ret
   exact ⟨_,rfl,zaa Hown,zaa Hlow⟩
def zvv (A:List (List Trm)) (v:Nat):Int:=-((zci A v).length:Int)
theorem zz0 (cb QB:Nat) (H:List (Nat×Nat)) (B:List zbb) (x y:Nat) (W:World) (hc:W.cell? ⟨cb,0,none⟩=some (.pointer (some ⟨QB,0,none⟩))) (hQ:zii W QB H B) (hO:zpt H B) (hx:x<256) (hy:y<256) :
  Calls Tryz.prog 193 #[.int .u8 x,.int .u8 y,.pointer (some ⟨cb,0,none⟩)] W fun e w'=>∃ c:Int,e=.returned (.int .i64 c)∧(c<0↔zvv (B.map (·.ts)) x<zvv (B.map (·.ts)) y)∧Below W.heap.size W w':=by
 have hcl:cb<W.heap.size:=World.block_lt_of_cell? W _ hc
 have huy:=fun W' (h:Below W.heap.size W W')=>zmp QB y H B W' (hQ.below h) hO hy
 have hux:=fun W' (h:Below W.heap.size W W')=>zmp QB x H B W' (hQ.below h) hO hx
 have hs:∀ a b:Nat,yk9 (a:Int) (b:Int)<0↔-(b:Int) < -(a:Int):=fun a b=>by rw [zzf];omega
 unfold zvv
 have hs1:=hs (zci (B.map (·.ts)) y).length (zci (B.map (·.ts)) x).length
 have Huy:=zac huy
 have Hux:=zac hux
 have Hs1:=zac hs1
 clear huy hux hs hs1 hQ hO
 generalize zci (B.map (·.ts)) x=ux at *
 generalize zci (B.map (·.ts)) y=uy at *
 go_enter Tryz.func193,Tryz.ntmps193
 go_wp2_with fail
 go_region_held3 (fun W'=>W'.cell? ⟨cb,0,none⟩=some (.pointer (some ⟨QB,0,none⟩)))
  (first
   | go_keep
   | (rw [hb2.cell (by simpa using Nat.lt_of_lt_of_le hcl hb1.size)];assumption)
   | (rw [hb1.cell (by simpa using hcl)];assumption))
  (first
   | (go_at_call_has 195 (Value.int IntKind.u8 (y:Int));refine ((zaa Huy) _ ?_).mono ?_;exact zav _ _;rintro e w1 ⟨vy,rfl,hoy,hb1⟩;obtain ⟨ya,yc,rfl,_⟩:=zak hoy;clear hoy)
   | (go_at_call_has 195 (Value.int IntKind.u8 (x:Int));refine ((zaa Hux) _ ?_).mono ?_;exact (zav _ _).trans hb1;rintro e w2 ⟨vx,rfl,hox,hb2⟩;obtain ⟨xa,xc,rfl,_⟩:=zak hox;clear hox)
   | (go_at_call 194;refine (zmz _ _ _).mono ?_;rintro e w3 ⟨rfl,rfl⟩))
 go_wp2
 go_ret
 exact ⟨_,rfl,zaa Hs1,((zav W.heap.size W).trans hb1).trans (hb2.mono hb1.size)⟩
def zt0 (A:List (List Trm)):List Nat:=stS (zvv A) (zbl A)
theorem zoa (A:List (List Trm)):(zt0 A).Perm (zbl A):=znr _ _
theorem zjr (n k:Nat) (hk:k<n):(List.range n)[k]?.getD 0=k:=by simp [hk]
theorem ybb {w:World} {KB n:Nat} {v:Value} (hn:n≤3) (h:w.heap[KB]? = some (.cells #[v,.int .i64 0,.int .i64 1,.int .i64 2] 96 (0,0))):zh7 .i64 96 1 #[v,.int .i64 0,.int .i64 1,.int .i64 2] (List.range n) w KB:=by
 refine ⟨_,h,rfl,fun k hk=>?_,fun q _=>rfl⟩
 rw [List.length_range] at hk
 rw [zjr n k hk]
 match k,(by omega:k<3) with|0,_=>rfl|1,_=>rfl|2,_=>rfl
theorem yg7 {w:World} {KB:Nat} {v:Value} {ys:List Nat} {c0 c1 c2:Nat} (h:zh7 .i64 96 1 #[v,.int .i64 0,.int .i64 1,.int .i64 2] ys w KB) (hl:ys.length≤3) (hc:ys ++ (List.range 3).drop ys.length=[c0,c1,c2]):w.heap[KB]? = some (.cells #[v,.int .i64 c0,.int .i64 c1,.int .i64 c2] 96 (0,0)):=by
 obtain ⟨cs,h1,h2,h3,h4⟩:=h
 have hz:cs[0]? = some v:=by rw [h4 0 (by omega)];rfl
 have hk:∀ k,k<3→cs[1+k]? = some (.int .i64 (([c0,c1,c2][k]?.getD 0:Nat):Int)):=by
  intro k hk
  rw [← hc]
  by_cases hy:k<ys.length
  ·rw [h3 k hy,List.getElem?_append_left hy]
  ·rw [h4 (1+k) (by omega),List.getElem?_append_right (by omega),List.getElem?_drop]
   have e:ys.length+(k - ys.length)=k:=by omega
   rw [e,zjr 3 k hk]
   match k,hk with|0,_=>rfl|1,_=>rfl|2,_=>rfl
 have hcs:cs=#[v,.int .i64 c0,.int .i64 c1,.int .i64 c2]:=by
  apply Array.ext
  ·rw [h2];rfl
  ·intro i hi1 hi2
   have hi:i<4:=by simpa using hi2
   have e:cs[i]? = (#[v,.int .i64 c0,.int .i64 c1,.int .i64 c2]:Array Value)[i]?:=by
    match i,hi with
    | 0,_=>exact hz
    | 1,_=>exact hk 0 (by omega)
    | 2,_=>exact hk 1 (by omega)
    | 3,_=>exact hk 2 (by omega)
   rw [Array.getElem?_eq_getElem hi1,Array.getElem?_eq_getElem hi2] at e
   exact Option.some.inj e
 rw [h1,hcs]
theorem zup (nm order:ByteArray) (pl:Int) (tv:Value) (ts:List Trm) (W:World) (hT:zhr W tv ts) (h3:ts.length≤3) (hl:∀ t∈ts,t.1<256) (hnm:nm.size≤1000) (hvn:(zaz order).Nodup) (hv0:∀ v∈zaz order,v≠0) (hall:∀ j,j<ts.length→zb4 ts j≠0→zb4 ts j∈zaz order) :
  Calls Tryz.prog 151 #[.agg #[.string nm,.int .i64 pl,tv],.string order] W fun e w'=>∃ c0 c1 c2:Nat,e=.returned (.agg #[.string nm,.int .i64 c0,.int .i64 c1,.int .i64 c2])∧zf7 ts (zaz order)=[c0,c1,c2]∧Below W.heap.size W w':=by
 obtain ⟨c0,c1,c2,hcols,hcp⟩:=zof h3 hvn hv0 hall
 have hst:=yhg hvn (fun h=>hv0 0 h rfl) hall
 obtain ⟨ta,tcap,rfl,_⟩:=id hT
 obtain ⟨W3,hW3⟩:∃ W3,W3=((W.alloc (.cells #[.string nm,.int .i64 pl,.slice ta ts.length tcap] 268)).alloc (.cells #[.string order] 9)).alloc (.cells #[.string ⟨#[]⟩,.int .i64 0,.int .i64 0,.int .i64 0] 96):=⟨_,rfl⟩
 have hb3:Below W.heap.size W W3:=by rw [hW3];exact (((Below.refl _ _).alloc (Nat.le_refl _) _).alloc (by simp) _).alloc (by simp;omega) _
 have hs3:W3.heap.size=W.heap.size+3:=by rw [hW3];simp
 have g0:W3.heap[W.heap.size]? = some (.cells #[.string nm,.int .i64 pl,.slice ta ts.length tcap] 268 (0,0)):=by rw [hW3];exact (Below.heap_alloc _ _ _ (by simp;omega)).trans ((Below.heap_alloc _ _ _ (by simp)).trans (zae _ _ _ rfl))
 have g1:W3.heap[W.heap.size+1]? = some (.cells #[.string order] 9 (0,0)):=by rw [hW3];exact (Below.heap_alloc _ _ _ (by simp)).trans (zae _ _ _ (by simp))
 have g2:W3.heap[W.heap.size+2]? = some (.cells #[.string ⟨#[]⟩,.int .i64 0,.int .i64 0,.int .i64 0] 96 (0,0)):=by rw [hW3];exact zae _ _ _ (by simp)
 have hc0:W3.cell? ⟨W.heap.size,0,none⟩=some (.string nm):=zab g0 0
 have hclone:=zob nm W3 (by omega)
 have Hclone:=zac hclone
 have Hb3:=zac hb3
 have G0:=zac g0
 have G1:=zac g1
 have G2:=zac g2
 have HT:=zac hT
 have Hl:=zac hl
 have Hcols:=zac hcols
 have Hst:=zac hst
 have Hs3:=zac hs3
 clear hclone hb3 g0 g1 g2 hT hl hcols hst hs3 hall
 go_enter Tryz.func151,Tryz.ntmps151
 rw [hW3] at hc0
 go_wp2_with fail
 rw [← hW3]
 refine (zaa Hclone).mono ?_
 rintro e w1 ⟨rfl,hb1⟩
 have hs1:=hb1.size
 have g0:=zan hb1 (zaa G0)
 have g1:=zan hb1 (zaa G1)
 have g2:=zan hb1 (zaa G2)
 have hl1:W.heap.size+2<w1.heap.size:=by have:=zaa Hs3;omega
 obtain ⟨wL,hwL⟩:∃ wL,wL=w1.alloc (.cells #[.string nm,.int .i64 0,.int .i64 1,.int .i64 2] 96):=⟨_,rfl⟩
 have hbL:Below w1.heap.size w1 wL:=by rw [hwL];exact (Below.refl _ _).alloc (Nat.le_refl _) _
 have hbW:Below W.heap.size W wL:=((zaa Hb3).trans (hb1.mono (zaa Hb3).size)).trans (hbL.mono (by have:=zaa Hs3;omega))
 have gK:wL.heap[w1.heap.size]? = some (.cells #[.string nm,.int .i64 0,.int .i64 1,.int .i64 2] 96 (0,0)):=by rw [hwL];exact zae _ _ _ rfl
 have hcmp:yhw 197 #[.pointer (some ⟨W.heap.size+1,0,none⟩),.pointer (some ⟨W.heap.size,0,none⟩)] .i64 (fun j=>zl8 (zaz order) (zb4 ts j)) (List.range ts.length) w1.heap.size wL:=by
  intro W' x y hx hy hK
  have q0:=(hK.blk W.heap.size (by have:=hbL.size;omega) (by omega)).trans (zan hbL g0)
  have q1:=(hK.blk (W.heap.size+1) (by have:=hbL.size;omega) (by omega)).trans (zan hbL g1)
  have hTW:zhr W' (.slice ta ts.length tcap) ts:=(zaa HT).below (hbW.trans (hK.below (by have:=hbL.size;omega) (fun k hk=>by omega)))
  exact yal (W.heap.size+1) W.heap.size order nm pl (.slice ta ts.length tcap) ts x y W' (zab q1 0) (zab q0 2) hTW (zaa Hl) (List.mem_range.1 hx) (List.mem_range.1 hy) h3
 have hsort:=zo8 197 _ _ w1.heap.size 1 3 96 _ (List.range ts.length) wL (enters_of Tryz.func197 (by kernel_rfl) rfl) hcmp (ybb h3 gK) (by simp;omega)
 rw [zaa Hst,List.length_range] at hsort
 have cA:wL.cell? ⟨W.heap.size,2,none⟩=some (.slice ta ts.length tcap):=zab (zan hbL g0) 2
 have hn3:(ts.length:Int)≤3:=by omega
 have Hsort:=zac hsort
 have HbW:=zac hbW
 have g2L:=zan hbL g2
 have G2L:=zac g2L
 have hsL:=hbL.size
 clear hsort hcmp hbW g0 g1 g2 gK hb1 hc0 Hclone hW3 hbL g2L
 rw [hwL] at cA
 go_wp2
 refine wp_loop_rounds 4 ?_
 rw [rounds_succ]
 go_wp2
 rw [rounds_succ]
 go_wp2
 rw [rounds_succ]
 go_wp2
 rw [rounds_succ]
 go_wp2_with (first|(go_at_call 196;fail))
 rw [← hwL]
 refine (zaa Hsort).mono ?_
 rintro e w5 ⟨rfl,hR5,hK5⟩
 have hlQ:(zh8 ts (zaz order)).length=ts.length:=by rw [← zaa Hst,zs3,List.length_range]
 have gK5:=yg7 hR5 (by omega) (by rw [hlQ];exact zaa Hcols)
 have gR5:=(hK5.blk (W.heap.size+1+1) (by omega) (by omega)).trans (zaa G2L)
 have k0:w5.cell? ⟨w1.heap.size,0,none⟩=some (.string nm):=zab gK5 0
 have k1:w5.cell? ⟨w1.heap.size,1,none⟩=some (.int .i64 c0):=zab gK5 1
 have k2:w5.cell? ⟨w1.heap.size,2,none⟩=some (.int .i64 c1):=zab gK5 2
 have k3:w5.cell? ⟨w1.heap.size,3,none⟩=some (.int .i64 c2):=zab gK5 3
 have r0:w5.cell? ⟨W.heap.size+1+1,0,none⟩=some (.string ⟨#[]⟩):=zab gR5 0
 have r1:w5.cell? ⟨W.heap.size+1+1,1,none⟩=some (.int .i64 0):=zab gR5 1
 have r2:w5.cell? ⟨W.heap.size+1+1,2,none⟩=some (.int .i64 0):=zab gR5 2
 have r3:w5.cell? ⟨W.heap.size+1+1,3,none⟩=some (.int .i64 0):=zab gR5 3
 have f0:w5.frozen? ⟨W.heap.size+1+1,0,none⟩=false:=zad gR5 0
 have f1:w5.frozen? ⟨W.heap.size+1+1,1,none⟩=false:=zad gR5 1
 have f2:w5.frozen? ⟨W.heap.size+1+1,2,none⟩=false:=zad gR5 2
 have f3:w5.frozen? ⟨W.heap.size+1+1,3,none⟩=false:=zad gR5 3
 have hbF:Below W.heap.size W w5:=(zaa HbW).trans (hK5.below (by omega) (fun k hk=>by omega))
 have HbF:=zac hbF
 clear hR5 hK5 gK5 gR5 hlQ hbF cA
 go_wp2
 refine bodyPost_ret (v:=.agg #[.string nm,.int .i64 c0,.int .i64 c1,.int .i64 c2]) (by simp [results,Tryz.results151,go_sem,k0,k1,k2,k3,r0,r1,r2,r3,f0,f1,f2,f3]) rfl ⟨c0,c1,c2,rfl,zaa Hcols,?_⟩
 exact zbu (zbu (zbu (zbu (zaa HbF) (by omega) _ _) (by omega) _ _) (by omega) _ _) (by omega) _ _
end Go.Proofs.YtoifcnidhfnapaaGreatDoor
