import Derived.Test.YtoifcnidhfnapaaGreatDoorB11
set_option linter.unusedVariables false
set_option linter.unusedSimpArgs false
set_option maxRecDepth 100000
set_option maxHeartbeats 16000000
namespace Go.Proofs.YtoifcnidhfnapaaGreatDoor
open Go.RowKit Go.Maps Go.Sort Go.Shelf
structure Src where
 rs:List (List zaj)
 c:Nat
def zfl {α:Type} (f:Nat→α) (a:Nat) (x:α):Nat→α:=fun i=>if i=a then x else f i
theorem zcw {α:Type} (f:Nat→α) (a:Nat) (x:α):zfl f a x a=x:=by simp [zfl]
theorem zd7 {α:Type} (f:Nat→α) {a i:Nat} (x:α) (h:i≠a):zfl f a x i=f i:=by simp [zfl,h]
def yj6:Nat→Nat→List zaj→Prop
 | 0,_,_=>True
 | n+1,c,r=>zbo c r∧∀ z,yj6 n (c+1) (zxy c z r)
structure zcm (n:Nat) (s:Src):Prop where
 cols:s.c+n≤3
 lex:∀ r∈s.rs,yj6 n s.c r
 full:∀ r∈s.rs,r≠[]
 len:∀ r∈s.rs,r.length≤1000000000000
 cnt:s.rs.length≤100000000
def nar1 (z:Int) (s:Src):Src:=⟨zc5 s.c z s.rs,s.c+1⟩
def zp0 (z:Int):Nat→Src→Src
 | 0,s=>s
 | k+1,s=>nar1 z (zp0 z k s)
theorem zka {c:Nat} {z:Int} {rs:List (List zaj)} {r:List zaj} (h:r∈zc5 c z rs):r≠[]∧∃ r0∈rs,r=zxy c z r0:=by
 unfold zc5 at h
 rw [List.mem_filter,List.mem_map] at h
 obtain ⟨⟨r0,h0,rfl⟩,h2⟩:=h
 refine ⟨fun e=>?_,r0,h0,rfl⟩
 rw [e] at h2
 simp at h2
theorem yhb (c:Nat) (z:Int) (r:List zaj):(zxy c z r).length≤r.length:=by
 unfold zxy zp9 zfn
 rw [List.length_take,List.length_drop]
 omega
theorem zxh (c:Nat) (z:Int) (rs:List (List zaj)):(zc5 c z rs).length≤rs.length:=by
 unfold zc5
 refine Nat.le_trans (List.length_filter_le _ _) (by simp)
theorem zcm.nar1 {n:Nat} {s:Src} (h:zcm (n+1) s) (z:Int):zcm n (nar1 z s) where
 cols:=by have:=h.cols;show s.c+1+n≤3;omega
 lex:=fun r hr=>by
  obtain ⟨_,r0,h0,rfl⟩:=zka hr
  exact (h.lex r0 h0).2 z
 full:=fun r hr=>(zka hr).1
 len:=fun r hr=>by
  obtain ⟨_,r0,h0,rfl⟩:=zka hr
  exact Nat.le_trans (yhb _ _ _) (h.len r0 h0)
 cnt:=Nat.le_trans (zxh _ _ _) h.cnt
theorem zcm.zp0 {n:Nat} {s:Src} (z:Int):∀ (k:Nat),zcm (n+k) s→zcm n (zp0 z k s)
 | 0,h=>h
 | k+1,h=>by
  have h':zcm (n+1+k) s:=by rw [show n+1+k=n+(k+1) by omega];exact h
  exact zcm.nar1 (zcm.zp0 z k h') z
theorem zcm.down {n m:Nat} {s:Src} (h:zcm n s) (hm:m≤n):zcm m s where
 cols:=by have:=h.cols;omega
 lex:=fun r hr=>by
  have key:∀ (m n c:Nat) (r:List zaj),m≤n→yj6 n c r→yj6 m c r:=by
   intro m
   induction m with
   | zero=>intro n c r _ _;trivial
   | succ m ih =>
    intro n c r hmn hl
    match n,hmn,hl with
    | n+1,hmn,hl=>exact ⟨hl.1,fun z=>ih n (c+1) _ (by omega) (hl.2 z)⟩
  exact key m n _ r hm (h.lex r hr)
 full:=h.full
 len:=h.len
 cnt:=h.cnt
structure zd1 (w:World) (B:Nat) (sv:Nat→SV) (S:Nat→Src):Prop where
 blk:w.heap[B]? = some (.cells (zag sv (fun i=>((S i).c:Int))) 192 (0,0))
 runs:∀ i,i<4→zay w (sv i).val (S i).rs
 off:∀ i,i<4→(S i).rs≠[]→(sv i).val.ownBlock≠some B∧(sv i).val.ownBlock≠some (B+1)
 full:∀ i,i<4→∀ r∈(S i).rs,r≠[]
theorem zx3 (sv:Nat→SV) (cs:Nat→Int) (o:Nat):((zag sv cs)[o]? = none)∨((zag sv cs)[o]? = some (.slice (sv (o / 2)).a (sv (o / 2)).n (sv (o / 2)).cap)∧o % 2=0)∨((zag sv cs)[o]? = some (.int .i64 (cs (o / 2)))∧o % 2=1):=by
 match o with
 | 0=>exact .inr (.inl ⟨rfl,rfl⟩)
 | 1=>exact .inr (.inr ⟨rfl,rfl⟩)
 | 2=>exact .inr (.inl ⟨rfl,rfl⟩)
 | 3=>exact .inr (.inr ⟨rfl,rfl⟩)
 | 4=>exact .inr (.inl ⟨rfl,rfl⟩)
 | 5=>exact .inr (.inr ⟨rfl,rfl⟩)
 | 6=>exact .inr (.inl ⟨rfl,rfl⟩)
 | 7=>exact .inr (.inr ⟨rfl,rfl⟩)
 | n+8=>exact .inl (by simp [zag])
theorem yjf {w:World} {B b o n cp:Nat} {es:List zaj} {sv:Nat→SV} {cs:Nat→Int} {t:TypeId} (hB:w.heap[B]? = some (.cells (zag sv cs) t (0,0))) (h:zb1 w (.slice (some ⟨b,o,none⟩) n cp) es) (he:es≠[]):b≠B:=by
 rintro rfl
 obtain ⟨a',cap',e,_,hx⟩:=h
 injection e with e1 e2 e3
 subst e1
 have hl:0<es.length:=List.length_pos_iff.2 he
 obtain ⟨b',o',e4,h0,h1,_,_⟩:=hx 0 hl
 injection e4 with e4
 injection e4 with e5 e6
 subst e5 e6
 rw [zab hB] at h0 h1
 simp only [Nat.zero_mul,Nat.add_zero] at h0 h1
 rcases zx3 sv cs o with h|⟨h,h'⟩|⟨h,h'⟩
 ·rw [h] at h0;cases h0
 ·rw [h] at h0;cases h0
 ·rcases zx3 sv cs (o+1) with g|⟨g,g'⟩|⟨g,g'⟩
  ·rw [g] at h1;cases h1
  ·rw [g] at h1;cases h1
  ·omega
theorem zay.aside {w w':World} {B:Nat} {v:Value} {rs:List (List zaj)} {sv:Nat→SV} {cs:Nat→Int} {t:TypeId} (h:zay w v rs) (hB:w.heap[B]? = some (.cells (zag sv cs) t (0,0))) (hf:∀ r∈rs,r≠[]) (ho:rs≠[]→v.ownBlock≠some B)
  (hk:∀ q,q≠B→w'.heap[q]? = w.heap[q]?):zay w' v rs:=by
 obtain ⟨a,cap,rfl,hx⟩:=h
 refine ⟨a,cap,rfl,fun i hi=>?_⟩
 obtain ⟨g,q,b,o,cp,rfl,d0,hr⟩:=hx i hi
 have hne:rs≠[]:=by rintro rfl;simp at hi
 have hg:g≠B:=fun e=>ho hne (by rw [e];rfl)
 have hmem:rs[i]?.getD []∈rs:=by simp [hi]
 have hb:=yjf hB hr (hf _ hmem)
 exact ⟨g,q,b,o,cp,rfl,(World.cell?_of_block (w:=w) (a:=⟨g,q+i,none⟩) (hk g hg)).trans d0,hr.back ((hk b hb).symm)⟩
theorem zdy {w:World} {b:Nat} {cs:Array Value} {t:TypeId} (off:Nat) (v:Value) (h:w.heap[b]? = some (.cells cs t (0,0))):(w.setCell ⟨b,off,none⟩ v).heap[b]? = some (.cells (cs.setIfInBounds off v) t (0,0)):=by
 simp only [World.setCell]
 rw [Array.getElem?_modify,if_pos rfl,h]
 rfl
theorem yjh {w:World} {B:Nat} {sv:Nat→SV} {cs:Nat→Int} {t:TypeId} (h:w.heap[B]? = some (.cells (zag sv cs) t (0,0))) {a:Nat} (ha:a<4) (s:SV) (c:Int) :
  ((w.setCell ⟨B,a*2,none⟩ s.val).setCell ⟨B,a*2+1,none⟩ (.int .i64 c)).heap[B]? = some (.cells (zag (zfl sv a s) (zfl cs a c)) t (0,0)):=by
 rw [zdy _ _ (zdy _ _ h)]
 match a,ha with
 | 0,_=>rfl
 | 1,_=>rfl
 | 2,_=>rfl
 | 3,_=>rfl
theorem zd1.put {w:World} {B:Nat} {sv:Nat→SV} {S:Nat→Src} (h:zd1 w B sv S) {a:Nat} (ha:a<4) (s:SV) (t:Src) (hr:zay w s.val t.rs) (ho:t.rs≠[]→s.val.ownBlock≠some B∧s.val.ownBlock≠some (B+1)) (hf:∀ r∈t.rs,r≠[]) :
  zd1 ((w.setCell ⟨B,a*2,none⟩ s.val).setCell ⟨B,a*2+1,none⟩ (.int .i64 t.c)) B (zfl sv a s) (zfl S a t):=by
 have hk:∀ q,q≠B→((w.setCell ⟨B,a*2,none⟩ s.val).setCell ⟨B,a*2+1,none⟩ (.int .i64 t.c)).heap[q]? = w.heap[q]?:=fun q hq =>
  (Below.heap_setCell _ _ _ q (fun e=>hq e)).trans (Below.heap_setCell _ _ _ q (fun e=>hq e))
 refine ⟨?_,fun i hi=>?_,fun i hi=>?_,fun i hi=>?_⟩
 ·rw [yjh h.blk ha s t.c]
  have:(zfl (fun i=>((S i).c:Int)) a (t.c:Int))=fun i=>((zfl S a t i).c:Int):=by
   funext i
   unfold zfl
   split <;> rfl
  rw [this]
 ·by_cases e:i=a
  ·subst e
   rw [zcw,zcw]
   exact hr.aside h.blk hf (fun e=>(ho e).1) hk
  ·rw [zd7 _ _ e,zd7 _ _ e]
   exact (h.runs i hi).aside h.blk (h.full i hi) (fun e=>(h.off i hi e).1) hk
 ·by_cases e:i=a
  ·subst e
   rw [zcw,zcw]
   exact ho
  ·rw [zd7 _ _ e,zd7 _ _ e]
   exact h.off i hi
 ·by_cases e:i=a
  ·subst e
   rw [zcw]
   exact hf
  ·rw [zd7 _ _ e]
   exact h.full i hi
theorem zd1.below {w w':World} {B:Nat} {sv:Nat→SV} {S:Nat→Src} (h:zd1 w B sv S) (hb:Below w.heap.size w w'):zd1 w' B sv S:=
 ⟨(hb.block B (Array.getElem?_eq_some_iff.1 h.blk).1).trans h.blk,fun i hi=>(h.runs i hi).below hb,h.off,h.full⟩
theorem zvs {α:Type} (f:Nat→α) (a:Nat):zfl f a (f a)=f:=by
 funext i
 unfold zfl
 split
 ·rename_i e;rw [e]
 ·rfl
theorem zvt {α:Type} (f:Nat→α) (a:Nat) (x y:α):zfl (zfl f a x) a y=zfl f a y:=by
 funext i
 unfold zfl
 split <;> rfl
theorem zbu {n:Nat} {V w:World} (h:Below n V w) {b:Nat} (hb:n≤b) (o:Nat) (v:Value):Below n V (w.setCell ⟨b,o,none⟩ v):=
 h.trans ⟨rfl,rfl,rfl,by simp [World.setCell],fun k hk=>Below.heap_setCell _ _ _ k (by dsimp only;omega)⟩
structure zrl (B:Nat) (W w:World):Prop where
  os:w.os=W.os
  tape:w.tape=W.tape
  output:w.output=W.output
  size:W.heap.size≤w.heap.size
  blk:∀ q,q<W.heap.size→q≠B→w.heap[q]? = W.heap[q]?
theorem zrl.refl (B:Nat) (W:World):zrl B W W:=⟨rfl,rfl,rfl,Nat.le_refl _,fun _ _ _=>rfl⟩
theorem zrl.below {B:Nat} {W w w':World} (h:zrl B W w) (hb:Below w.heap.size w w'):zrl B W w':=
  ⟨hb.os.trans h.os,hb.tape.trans h.tape,hb.output.trans h.output,Nat.le_trans h.size hb.size,fun q hq hne=>(hb.block q (Nat.lt_of_lt_of_le hq h.size)).trans (h.blk q hq hne)⟩
theorem zrl.set {B:Nat} {W w:World} (h:zrl B W w) (o:Nat) (v:Value):zrl B W (w.setCell ⟨B,o,none⟩ v):=
  ⟨h.os,h.tape,h.output,by simp [World.setCell];exact h.size,fun q hq hne=>(Below.heap_setCell _ _ _ q (fun e=>hne e)).trans (h.blk q hq hne)⟩
theorem zrl.toBelow {B:Nat} {V W w:World} (h:zrl B W w) (hV:Below V.heap.size V W) (hB:V.heap.size≤B):Below V.heap.size V w:=
  ⟨h.os.trans hV.os,h.tape.trans hV.tape,h.output.trans hV.output,Nat.le_trans hV.size h.size,fun q hq=>(h.blk q (Nat.lt_of_lt_of_le hq hV.size) (by omega)).trans (hV.block q hq)⟩
def zmu (w:World) (v:Value) (us:List (Nat×Nat)):Prop:=
  ∃ a cap,v=.slice a us.length cap∧∀ j,j<us.length→∃ b o,a=some ⟨b,o,none⟩∧w.cell? ⟨b,o+j*2,none⟩=some (.int .i64 ((us[j]?.getD (0,0)).1:Nat))∧w.cell? ⟨b,o+j*2+1,none⟩=some (.int .i64 ((us[j]?.getD (0,0)).2:Nat))
def zsf (z:Int) (S:Nat→Src) (u:Nat×Nat):Nat→Src:=zfl S u.1 (zp0 z u.2 (S u.1))
def zh6 (z:Int) (us:List (Nat×Nat)) (S:Nat→Src):Nat→Src:=us.foldl (zsf z) S
theorem ydz (z:Int) (us:List (Nat×Nat)) (S:Nat→Src) (k:Nat) (hk:k<us.length):zh6 z (us.take (k+1)) S=zsf z (zh6 z (us.take k) S) (us[k]?.getD (0,0)):=by
  unfold zh6
  rw [List.take_add_one,List.foldl_append]
  simp [hk]
def zm2 (z:Int) (us:List (Nat×Nat)) (S:Nat→Src) (k:Nat):List (List zaj):=(zh6 z (us.take (k+1)) S (us[k]?.getD (0,0)).1).rs
def zgc (z:Int) (us:List (Nat×Nat)) (S:Nat→Src):Bool:=(List.range us.length).all fun k=>!(zm2 z us S k).isEmpty
theorem yam {z:Int} {us:List (Nat×Nat)} {S:Nat→Src} (h:∀ k,k<us.length→zm2 z us S k≠[]):zgc z us S=true:=by
  unfold zgc
  rw [List.all_eq_true]
  intro k hk
  have:=h k (List.mem_range.1 hk)
  simp [this]
theorem zxb {z:Int} {us:List (Nat×Nat)} {S:Nat→Src} {k:Nat} (hk:k<us.length) (h:zm2 z us S k=[]):zgc z us S=false:=by
  unfold zgc
  rw [List.all_eq_false]
  exact ⟨k,List.mem_range.2 hk,by simp [h]⟩
theorem zk7 {w:World} {s:SV} {rs:List (List zaj)} (h:zay w s.val rs) (hne:rs≠[]) {B:Nat} (hB:w.heap.size≤B):s.val.ownBlock≠some B:=by
  obtain ⟨a,cap,e,hx⟩:=h
  obtain ⟨g,q,b,o,cp,rfl,d0,_⟩:=hx 0 (List.length_pos_iff.2 hne)
  have hl:g<w.heap.size:=World.block_lt_of_cell? w _ d0
  rw [e]
  intro e2
  injection e2 with e2
  have e3:g=B:=e2
  omega
theorem zx1 (us:List (Nat×Nat)) (uv:Value) (pa:Option Addr) (pn pc:Nat) (sv:Nat→SV) (S:Nat→Src) (z:Int) (W:World) (hU:zmu W uv us) (hn:us.length≤1000) (hr:∀ i,i<4→zay W (sv i).val (S i).rs) (hf:∀ i,i<4→∀ r∈(S i).rs,r≠[])
    (hu:∀ k,k<us.length→(us[k]?.getD (0,0)).1<4∧zcm (us[k]?.getD (0,0)).2 (zh6 z (us.take k) S (us[k]?.getD (0,0)).1)) :
    Calls Tryz.prog 204 #[.agg #[uv,.slice pa pn pc],.agg (zag sv (fun i=>((S i).c:Int))),.int .i64 z] W fun e w'=>∃ sv' cs',e=.returned (.tuple #[.agg (zag sv' cs'),.bool (zgc z us S)])∧Below W.heap.size W w' ∧
      (zgc z us S=true→cs'=(fun i=>((zh6 z us S i).c:Int))∧∀ i,i<4→zay w' (sv' i).val (zh6 z us S i).rs):=by
  obtain ⟨a,cap,rfl,hx⟩:=hU
  obtain ⟨W3,hW3⟩:∃ W3,W3=((W.alloc (.cells #[.slice a us.length cap,.slice pa pn pc] 273)).alloc (.cells (zag sv (fun i=>((S i).c:Int))) 192)).alloc (.cells (zag (fun _=>⟨none,0,0⟩) (fun _=>0)) 192):=⟨_,rfl⟩
  have hb3:Below W.heap.size W W3:=by rw [hW3];exact (((Below.refl _ _).alloc (Nat.le_refl _) _).alloc (by simp) _).alloc (by simp;omega) _
  have hsz:W3.heap.size=W.heap.size+3:=by rw [hW3];simp
  have hB0:W3.heap[W.heap.size]? = some (.cells #[.slice a us.length cap,.slice pa pn pc] 273 (0,0)):=by
    rw [hW3]
    exact (Below.heap_alloc _ _ _ (by simp;omega)).trans ((Below.heap_alloc _ _ _ (by simp)).trans (zae _ _ _ rfl))
  have hB1:W3.heap[W.heap.size+1]? = some (.cells (zag sv (fun i=>((S i).c:Int))) 192 (0,0)):=by
    rw [hW3]
    exact (Below.heap_alloc _ _ _ (by simp)).trans (zae _ _ _ (by simp))
  have hB2:W3.heap[W.heap.size+2]? = some (.cells (zag (fun _=>⟨none,0,0⟩) (fun _=>0)) 192 (0,0)):=by
    rw [hW3]
    exact zae _ _ _ (by simp)
  have hS3:zd1 W3 (W.heap.size+1) sv S:=⟨hB1,fun i hi=>(hr i hi).below hb3,fun i hi hne=>⟨zk7 (hr i hi) hne (by omega),zk7 (hr i hi) hne (by omega)⟩,hf⟩
  have c0:W3.cell? ⟨W.heap.size,0,none⟩=some (.slice a us.length cap):=zab hB0 0
  have Hb3:=zac hb3
  have Hsz:=zac hsz
  have HB0:=zac hB0
  have HS3:=zac hS3
  have HB2:=zac hB2
  have Hx:=zac hx
  have Hu:=zac hu
  clear hb3 hsz hB0 hB1 hB2 hx hr hf hu hS3
  go_enter Tryz.func204,Tryz.ntmps204
  unfold zag at hW3 ⊢
  go_wp2
  rw [← hW3]
  clear hW3
  try go_wp2
  go_loopw [14] (fun i wr=>∃ (k:Nat) (svk:Nat→SV),k≤us.length∧i=.int .i64 k∧zd1 wr (W.heap.size+1) svk (zh6 z (us.take k) S)∧(∀ j,j<k→zm2 z us S j≠[])∧zrl (W.heap.size+1) W3 wr) (fun i _=>us.length - (intOf i).toNat)
  case atStart=>exact ⟨0,sv,Nat.zero_le _,rfl,zaa HS3,fun j hj=>by omega,zrl.refl _ _⟩
  case round =>
    obtain ⟨k,svk,hk,rfl,hS,hL,hK⟩:=hrel
    by_cases hlt:k<us.length
    · have hkx:(k:Int)<(us.length:Int):=by omega
      obtain ⟨b,o,rfl,d0,d1⟩:=(zaa Hx) k hlt
      obtain ⟨ha4,hok⟩:=(zaa Hu) k hlt
      have hsucc:=ydz z us S k hlt
      have hleft:zm2 z us S k=(zh6 z (us.take (k+1)) S (us[k]?.getD (0,0)).1).rs:=rfl
      rw [hsucc] at hleft
      obtain ⟨⟨at',co⟩,hue⟩:∃ u,u=us[k]?.getD (0,0):=⟨_,rfl⟩
      rw [← hue] at d0 d1 ha4 hok hsucc hleft
      obtain ⟨T,hT⟩:∃ T,T=zh6 z (us.take k) S:=⟨_,rfl⟩
      rw [← hT] at hok hsucc hleft hS
      dsimp only at d0 d1 ha4 hok
      have hbl:=World.block_lt_of_cell? W _ d0
      have hwr:Below W.heap.size W wr:=hK.toBelow (zaa Hb3) (by omega)
      have d0':=(hwr.cell (p:=⟨b,o+k*2,none⟩) hbl).trans d0
      have d1':=(hwr.cell (p:=⟨b,o+k*2+1,none⟩) hbl).trans d1
      have hco:co≤3:=by have:=hok.cols;omega
      have hat:(at':Int)<4:=by omega
      have HS:=zac hS
      have HL:=zac hL
      have HK:=zac hK
      have Hok:=zac hok
      have Hsucc:=zac hsucc
      have Hleft:=zac hleft
      have Hwr:=zac hwr
      clear d0 d1 hS hL hK hok hsucc hleft hwr hue hT
      go_wp2_with fail
      obtain ⟨w4,hw4⟩:∃ w4,w4=wr.alloc (.cells #[.int .i64 (at':Nat),.int .i64 (co:Nat)] 357):=⟨_,rfl⟩
      rw [← hw4]
      have hb4:Below wr.heap.size wr w4:=by rw [hw4];exact (Below.refl _ _).alloc (Nat.le_refl _) _
      have hS4:zd1 w4 (W.heap.size+1) svk (zfl T at' (zp0 z 0 (T at'))):=by
        have:=(zaa HS).below hb4
        show zd1 w4 (W.heap.size+1) svk (zfl T at' (T at'))
        rw [zvs]
        exact this
      have hK4:=(zaa HK).below hb4
      have HS4:=zac hS4
      have HK4:=zac hK4
      clear hw4 hb4 hS4 hK4
      go_loopw [23] (fun i wi=>∃ (m:Nat) (svm:Nat→SV),m≤co∧i=.int .i64 m∧zd1 wi (W.heap.size+1) svm (zfl T at' (zp0 z m (T at')))∧zrl (W.heap.size+1) W3 wi) (fun i _=>co - (intOf i).toNat)
      case atStart=>exact ⟨0,svk,Nat.zero_le _,rfl,zaa HS4,zaa HK4⟩
      case round =>
        obtain ⟨m,svm,hm,rfl,hSm,hKm⟩:=hrel
        obtain ⟨t,ht⟩:∃ t,t=zp0 z m (T at'):=⟨_,rfl⟩
        have hts:nar1 z t=zp0 z (m+1) (T at'):=by rw [ht];rfl
        rw [← ht] at hSm
        have hrm:=hSm.runs at' ha4
        rw [zcw] at hrm
        obtain ⟨e0,e1⟩:=zaf hSm.blk at' ha4
        rw [zcw] at e1
        have hlw:W.heap.size+3≤wr.heap.size:=by have h1:=zaa Hsz;have h2:=hKm.size;omega
        obtain ⟨x,hx⟩:∃ x,x=svm at':=⟨_,rfl⟩
        rw [← hx] at e0 hrm
        obtain ⟨xa,xn,xc⟩:=x
        dsimp only at e0
        by_cases hmc:m<co
        · have hmx:(m:Int)<(co:Int):=by omega
          have hok1:zcm (co - m - 1+1) t:=by
            rw [ht]
            exact zcm.zp0 z m (by rw [show co - m - 1+1+m=co by omega];exact zaa Hok)
          have hso:∀ r∈t.rs,zbo t.c r:=fun r hr=>(hok1.lex r hr).1
          have hc3:t.c<3:=by have:=hok1.cols;omega
          have hok2:=hok1.nar1 z
          have Hso:=zac hso
          have Hlen:=zac hok1.len
          have Hcnt:=zac hok1.cnt
          have Hfull:=zac hok2.full
          have Hrm:Hid (zay wr (.slice xa xn xc) t.rs):=zac hrm
          have HSm:=zac hSm
          have HKm:=zac hKm
          have Hts:=zac hts
          clear hso hok1 hok2 hrm hSm hKm hts ht hx
          go_wp2_with (first
            | (go_at_call 200;refine (zq1 t.rs t.c z (.slice xa xn xc) wr (zaa Hrm) (zaa Hso) hc3 (zaa Hlen) (zaa Hcnt)).mono ?_;rintro e w5 ⟨sv5,rfl,hr5,hb5,hown⟩
               have hS5:=(zaa HSm).below hb5
               have hK5:=(zaa HKm).below hb5
               obtain ⟨g0,g1⟩:=zaf hS5.blk at' ha4
               have f0:w5.frozen? ⟨W.heap.size+1,at'*2,none⟩=false:=zad hS5.blk _
               have f1:w5.frozen? ⟨W.heap.size+1,at'*2+1,none⟩=false:=zad hS5.blk _
               have hr6:=hr5
               obtain ⟨a5,cap5,rfl,_⟩:=hr5
               have Hr6:=zac hr6
               have Hown:=zac hown
               have HS5:=zac hS5
               have HK5:=zac hK5
               clear hr6 hown hS5 hK5 hb5))
          have hcast:((nar1 z t).c:Int)=(t.c:Int)+1:=by simp [nar1]
          have hput:=(zaa HS5).put ha4 ⟨a5,(zc5 t.c z t.rs).length,cap5⟩ (nar1 z t) (zaa Hr6) (fun _=>⟨fun e=>by have:=(zaa Hown) _ e;omega,fun e=>by have:=(zaa Hown) _ e;omega⟩) (zaa Hfull)
          rw [zvt,zaa Hts,← zaa Hts,hcast,zaa Hts] at hput
          exact ⟨⟨m+1,_,by omega,by simp,hput,((zaa HK5).set _ _).set _ _⟩,by simp [intOf];omega⟩
        · have hke:m=co:=by omega
          have hxn:xn=t.rs.length:=by
            obtain ⟨_,_,e,_⟩:=hrm
            exact (Value.slice.inj e).2.1
          have Hrm:=zac hrm
          have HSm:=zac hSm
          have HKm:=zac hKm
          have Ht:=zac ht
          have Hxn:=zac hxn
          have Hke:=zac hke
          have hmx:¬ (m:Int)<(co:Int):=by omega
          clear hrm hSm hKm hts ht hx hxn hke
          go_wp2_with fail
          refine (zt9 xa xn xc t.c wr).mono ?_
          rintro e w6 ⟨rfl,hb6⟩
          dsimp only
          have hS6:=(zaa HSm).below hb6
          have hK6:=(zaa HKm).below hb6
          have hleft:zm2 z us S k=t.rs:=by
            rw [zaa Hleft,zaa Ht,zaa Hke]
            show (zfl T at' (zp0 z co (T at')) at').rs=_
            rw [zcw]
          clear hb6
          by_cases hz:xn=0
          · rw [show decide (xn=0)=true by simp [hz]]
            have hte:t.rs=[]:=List.length_eq_zero_iff.1 ((zaa Hxn).symm.trans hz)
            have hfl:zgc z us S=false:=zxb hlt (hleft.trans hte)
            have hB2r:w6.heap[W.heap.size+2]? = _:=(hK6.blk (W.heap.size+2) (by have:=zaa Hsz;omega) (by omega)).trans (zaa HB2)
            have p0:w6.cell? ⟨W.heap.size+1,0,none⟩=some _:=(zaf hS6.blk 0 (by omega)).1
            have p1:w6.cell? ⟨W.heap.size+1,1,none⟩=some _:=(zaf hS6.blk 0 (by omega)).2
            have p2:w6.cell? ⟨W.heap.size+1,2,none⟩=some _:=(zaf hS6.blk 1 (by omega)).1
            have p3:w6.cell? ⟨W.heap.size+1,3,none⟩=some _:=(zaf hS6.blk 1 (by omega)).2
            have p4:w6.cell? ⟨W.heap.size+1,4,none⟩=some _:=(zaf hS6.blk 2 (by omega)).1
            have p5:w6.cell? ⟨W.heap.size+1,5,none⟩=some _:=(zaf hS6.blk 2 (by omega)).2
            have p6:w6.cell? ⟨W.heap.size+1,6,none⟩=some _:=(zaf hS6.blk 3 (by omega)).1
            have p7:w6.cell? ⟨W.heap.size+1,7,none⟩=some _:=(zaf hS6.blk 3 (by omega)).2
            have q0:w6.cell? ⟨W.heap.size+2,0,none⟩=some _:=zab hB2r 0
            have r0:w6.frozen? ⟨W.heap.size+2,0,none⟩=false:=zad hB2r 0
            have q1:w6.cell? ⟨W.heap.size+2,1,none⟩=some _:=zab hB2r 1
            have r1:w6.frozen? ⟨W.heap.size+2,1,none⟩=false:=zad hB2r 1
            have q2:w6.cell? ⟨W.heap.size+2,2,none⟩=some _:=zab hB2r 2
            have r2:w6.frozen? ⟨W.heap.size+2,2,none⟩=false:=zad hB2r 2
            have q3:w6.cell? ⟨W.heap.size+2,3,none⟩=some _:=zab hB2r 3
            have r3:w6.frozen? ⟨W.heap.size+2,3,none⟩=false:=zad hB2r 3
            have q4:w6.cell? ⟨W.heap.size+2,4,none⟩=some _:=zab hB2r 4
            have r4:w6.frozen? ⟨W.heap.size+2,4,none⟩=false:=zad hB2r 4
            have q5:w6.cell? ⟨W.heap.size+2,5,none⟩=some _:=zab hB2r 5
            have r5:w6.frozen? ⟨W.heap.size+2,5,none⟩=false:=zad hB2r 5
            have q6:w6.cell? ⟨W.heap.size+2,6,none⟩=some _:=zab hB2r 6
            have r6:w6.frozen? ⟨W.heap.size+2,6,none⟩=false:=zad hB2r 6
            have q7:w6.cell? ⟨W.heap.size+2,7,none⟩=some _:=zab hB2r 7
            have r7:w6.frozen? ⟨W.heap.size+2,7,none⟩=false:=zad hB2r 7
            have hbw:=hK6.toBelow (zaa Hb3) (by omega)
            have Hbw:=zac hbw
            have Hfl:=zac hfl
            clear hS6 hK6 hB2r hbw hfl hleft hte
            go_wp2
            refine bodyPost_ret (v:=.tuple #[.agg (zag svm (fun i=>((zfl T at' t i).c:Int))),.bool false]) (by simp [results,Tryz.results204,go_sem,zag,p0,q0,r0,p1,q1,r1,p2,q2,r2,p3,q3,r3,p4,q4,r4,p5,q5,r5,p6,q6,r6,p7,q7,r7]) rfl ⟨svm,(fun i=>((zfl T at' t i).c:Int)),by rw [zaa Hfl];rfl,?_,fun e=>?_⟩
            · iterate 8 refine zbu ?_ (by omega) _ _
              exact zaa Hbw
            rw [zaa Hfl] at e
            cases e
          · rw [show decide (xn=0)=false by simp [hz]]
            have hne:t.rs≠[]:=fun e=>hz ((zaa Hxn).trans (by rw [e];rfl))
            have HS6:=zac hS6
            have HK6:=zac hK6
            have Hle:=zac hleft
            have Hne:=zac hne
            clear hS6 hK6 hleft hne
            go_wp2
            refine ⟨⟨k+1,svm,by omega,by simp,?_,?_,zaa HK6⟩,by simp [intOf];omega⟩
            · rw [zaa Hsucc]
              show zd1 w6 _ svm (zfl T at' (zp0 z co (T at')))
              rw [← zaa Hke,← zaa Ht]
              exact zaa HS6
            · intro j hj
              by_cases hjk:j<k
              · exact (zaa HL) j hjk
              · have:j=k:=by omega
                subst this
                rw [zaa Hle]
                exact zaa Hne
    · have hke:k=us.length:=by omega
      subst hke
      rw [List.take_length] at hS
      have htr:=yam hL
      have hB2r:wr.heap[W.heap.size+2]? = _:=(hK.blk (W.heap.size+2) (by have:=zaa Hsz;omega) (by omega)).trans (zaa HB2)
      have p0:wr.cell? ⟨W.heap.size+1,0,none⟩=some _:=(zaf hS.blk 0 (by omega)).1
      have p1:wr.cell? ⟨W.heap.size+1,1,none⟩=some _:=(zaf hS.blk 0 (by omega)).2
      have p2:wr.cell? ⟨W.heap.size+1,2,none⟩=some _:=(zaf hS.blk 1 (by omega)).1
      have p3:wr.cell? ⟨W.heap.size+1,3,none⟩=some _:=(zaf hS.blk 1 (by omega)).2
      have p4:wr.cell? ⟨W.heap.size+1,4,none⟩=some _:=(zaf hS.blk 2 (by omega)).1
      have p5:wr.cell? ⟨W.heap.size+1,5,none⟩=some _:=(zaf hS.blk 2 (by omega)).2
      have p6:wr.cell? ⟨W.heap.size+1,6,none⟩=some _:=(zaf hS.blk 3 (by omega)).1
      have p7:wr.cell? ⟨W.heap.size+1,7,none⟩=some _:=(zaf hS.blk 3 (by omega)).2
      have q0:wr.cell? ⟨W.heap.size+2,0,none⟩=some _:=zab hB2r 0
      have r0:wr.frozen? ⟨W.heap.size+2,0,none⟩=false:=zad hB2r 0
      have q1:wr.cell? ⟨W.heap.size+2,1,none⟩=some _:=zab hB2r 1
      have r1:wr.frozen? ⟨W.heap.size+2,1,none⟩=false:=zad hB2r 1
      have q2:wr.cell? ⟨W.heap.size+2,2,none⟩=some _:=zab hB2r 2
      have r2:wr.frozen? ⟨W.heap.size+2,2,none⟩=false:=zad hB2r 2
      have q3:wr.cell? ⟨W.heap.size+2,3,none⟩=some _:=zab hB2r 3
      have r3:wr.frozen? ⟨W.heap.size+2,3,none⟩=false:=zad hB2r 3
      have q4:wr.cell? ⟨W.heap.size+2,4,none⟩=some _:=zab hB2r 4
      have r4:wr.frozen? ⟨W.heap.size+2,4,none⟩=false:=zad hB2r 4
      have q5:wr.cell? ⟨W.heap.size+2,5,none⟩=some _:=zab hB2r 5
      have r5:wr.frozen? ⟨W.heap.size+2,5,none⟩=false:=zad hB2r 5
      have q6:wr.cell? ⟨W.heap.size+2,6,none⟩=some _:=zab hB2r 6
      have r6:wr.frozen? ⟨W.heap.size+2,6,none⟩=false:=zad hB2r 6
      have q7:wr.cell? ⟨W.heap.size+2,7,none⟩=some _:=zab hB2r 7
      have r7:wr.frozen? ⟨W.heap.size+2,7,none⟩=false:=zad hB2r 7
      have hbw:=hK.toBelow (zaa Hb3) (by omega)
      have Hbw:=zac hbw
      have Htr:=zac htr
      have HS:=zac hS
      have HB2r:=zac hB2r
      clear hS hK hB2r hbw htr hL
      go_wp2
      refine bodyPost_ret (v:=.tuple #[.agg (zag svk (fun i=>((zh6 z us S i).c:Int))),.bool true]) (by simp [results,Tryz.results204,go_sem,zag,p0,q0,r0,p1,q1,r1,p2,q2,r2,p3,q3,r3,p4,q4,r4,p5,q5,r5,p6,q6,r6,p7,q7,r7]) rfl ⟨svk,(fun i=>((zh6 z us S i).c:Int)),by rw [zaa Htr];rfl,?_,fun _=>⟨rfl,fun i hi=>?_⟩⟩
      · iterate 8 refine zbu ?_ (by omega) _ _
        exact zaa Hbw
      refine ((zaa HS).runs i hi).aside (zaa HB2r) ((zaa HS).full i hi) (fun e=>((zaa HS).off i hi e).2) (fun q hq=>?_)
      iterate 8 refine (Below.heap_setCell _ _ _ q (fun e=>hq e)).trans ?_
      rfl
end Go.Proofs.YtoifcnidhfnapaaGreatDoor
