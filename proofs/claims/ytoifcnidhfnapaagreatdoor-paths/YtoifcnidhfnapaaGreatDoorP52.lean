import Derived.Test.YtoifcnidhfnapaaGreatDoorP51
import Derived.Test.YtoifcnidhfnapaaGreatDoorP11
import Derived.Test.YtoifcnidhfnapaaGreatDoorP12
set_option linter.unusedVariables false
set_option linter.unusedSimpArgs false
namespace Go.Proofs.YtoifcnidhfnapaaGreatDoor
namespace K
open Go.RowKit Go.Maps
def nmV:ByteArray:=⟨#[118]⟩
def noO:ByteArray:=⟨#[]⟩
structure PathsF (f g:Row→Int) (F:H4→Int):Prop where
 eq:∀ a c,a∈nums→c∈nums→F (a,c,0,0)=psum f g a c 4
 supp:∀ h,WfH h→F h≠0→h∈zmk
theorem zj2 {y:H4} (h:y∈zmk):y.2.2=(0,0):=by
 simp only [zmk,List.mem_flatMap,List.mem_map] at h
 obtain ⟨a,_,b,_,rfl⟩:=h
 rfl
theorem zvv:∀ y∈zmk,WfH y:=by
 intro y h
 simp only [zmk,List.mem_flatMap,List.mem_map] at h
 obtain ⟨a,ha,b,hb,rfl⟩:=h
 exact ⟨zb1 hb,zb1 ha,zca,zca⟩
theorem ints2 {w:World} (a b:Int):zbm (w.alloc (.cells #[.int .i64 a,.int .i64 b] 2)) (.slice (some ⟨w.heap.size,0,none⟩) 2 2) [a,b]:=
 zez (zs:=[a,b]) (zad _ _ _ rfl) 2
theorem zqo (ar:Nat) (f:Row→Int) (ys:List Row):zfd (zbz ar f ys):=by
 intro r hr
 obtain ⟨y,_,rfl⟩:=List.mem_map.1 hr
 show (zcn ar y).length≤1000000000
 unfold zcn
 exact Nat.le_trans (List.length_take_le' _ _) (by simp)
structure zql (w5:World) (f g:Row→Int) (F:H4→Int) (vr vs vv:Value) (yr ys:List Row) (yv:List H4):Prop where
 rr:zdm w5 vr (zbz 2 f yr)
 rs:zdm w5 vs (zbz 2 g ys)
 rv:zdm w5 vv (H.zbz 2 F yv)
 fr:zh0 f yr
 fs:zh0 g ys
 fv:H.zh0 F yv
 gr:∀ y∈yr,y∈zdt
 gs:∀ y∈ys,y∈zdt
 lr:yr.length≤1000000
 ls:ys.length≤1000000
 lv:yv.length≤1000000
 bf:∀ r,zav r→-1000≤f r∧f r≤1000
 bg:∀ r,zav r→-1000≤g r∧g r≤1000
 pf:PathsF f g F
theorem zql.wr {w5:World} {f g:Row→Int} {F:H4→Int} {vr vs vv:Value} {yr ys:List Row} {yv:List H4} (h:zql w5 f g F vr vs vv yr ys yv) {a b:Int} (ha:a∈nums) (hb:b∈nums) (W:World) (hW:Below w5.heap.size w5 W) :
  Calls Tryz.prog 23 #[vr,.slice (some ⟨W.heap.size,0,none⟩) 2 2] (W.alloc (.cells #[.int .i64 a,.int .i64 b] 2)) fun e w'=>e=.returned (.int .i64 (f (a,b,0)))∧Below w5.heap.size w5 w':=by
 have hb1:=hW.alloc hW.size (.cells #[.int .i64 a,.int .i64 b] 2)
 refine (zf7 _ _ (zbz 2 f yr) [a,b] _ (h.rr.below hb1) (ints2 a b) (by simp [zbz];have:=h.lr;omega) (zqo _ _ _) (by simp)).mono ?_
 rintro e w' ⟨rfl,hd⟩
 refine ⟨?_,hb1.trans (hd.below _)⟩
 rw [zn4 (ar:=2) (zs:=[a,b]) rfl (by omega) (fun y hy=>zzo.1 (h.gr y hy)) h.fr ⟨zb1 ha,zb1 hb,zca⟩]
 rfl
theorem zql.ws {w5:World} {f g:Row→Int} {F:H4→Int} {vr vs vv:Value} {yr ys:List Row} {yv:List H4} (h:zql w5 f g F vr vs vv yr ys yv) {a b:Int} (ha:a∈nums) (hb:b∈nums) (W:World) (hW:Below w5.heap.size w5 W) :
  Calls Tryz.prog 23 #[vs,.slice (some ⟨W.heap.size,0,none⟩) 2 2] (W.alloc (.cells #[.int .i64 a,.int .i64 b] 2)) fun e w'=>e=.returned (.int .i64 (g (a,b,0)))∧Below w5.heap.size w5 w':=by
 have hb1:=hW.alloc hW.size (.cells #[.int .i64 a,.int .i64 b] 2)
 refine (zf7 _ _ (zbz 2 g ys) [a,b] _ (h.rs.below hb1) (ints2 a b) (by simp [zbz];have:=h.ls;omega) (zqo _ _ _) (by simp)).mono ?_
 rintro e w' ⟨rfl,hd⟩
 refine ⟨?_,hb1.trans (hd.below _)⟩
 rw [zn4 (ar:=2) (zs:=[a,b]) rfl (by omega) (fun y hy=>zzo.1 (h.gs y hy)) h.fs ⟨zb1 ha,zb1 hb,zca⟩]
 rfl
theorem zql.wv {w5:World} {f g:Row→Int} {F:H4→Int} {vr vs vv:Value} {yr ys:List Row} {yv:List H4} (h:zql w5 f g F vr vs vv yr ys yv) {a b:Int} (ha:a∈nums) (hb:b∈nums) (W:World) (hW:Below w5.heap.size w5 W) :
  Calls Tryz.prog 23 #[vv,.slice (some ⟨W.heap.size,0,none⟩) 2 2] (W.alloc (.cells #[.int .i64 a,.int .i64 b] 2)) fun e w'=>e=.returned (.int .i64 (psum f g a b 4))∧Below w5.heap.size w5 w':=by
 have hb1:=hW.alloc hW.size (.cells #[.int .i64 a,.int .i64 b] 2)
 refine (zf7 _ _ (H.zbz 2 F yv) [a,b] _ (h.rv.below hb1) (ints2 a b) (by simp [H.zbz];have:=h.lv;omega) (ziu _ _ _) (by simp)).mono ?_
 rintro e w' ⟨rfl,hd⟩
 refine ⟨?_,hb1.trans (hd.below _)⟩
 rw [zyb (fun y hy=>zj2 (h.pf.supp y (h.fv.wf y hy) ((h.fv.mem y (h.fv.wf y hy)).1 hy))) h.fv ⟨zb1 ha,zb1 hb,zca,zca⟩,h.pf.eq a b ha hb]
set_option maxRecDepth 100000 in
set_option maxHeartbeats 4000000 in
theorem zye (vc:Value) (late:Bool) (w:World) (A A1 A2 A3:Nat→World→Prop) (A1b:Nat→Value→World→Prop)
  (h14:Calls Tryz.prog 14 #[] w fun e w'=>∃ eb,e=.returned (.pointer (some ⟨eb,0,none⟩))∧A eb w')
  (h1t:late=true→∀ eb w1,A eb w1→A1 eb w1)
  (h16:late=false→∀ eb w1,A eb w1→Calls Tryz.prog 16 #[.pointer (some ⟨eb,0,none⟩),.string nmV,.string (qryT 0),.string noO] w1 fun e w2=>e=.returned (.bool true)∧A1 eb w2)
  (h18:∀ eb w1,A1 eb w1→Calls Tryz.prog 18 #[vc] w1 fun e w2=>∃ u,e=.returned u∧A1b eb u w2)
  (h17:∀ eb u w1,A1b eb u w1→Calls Tryz.prog 17 #[.pointer (some ⟨eb,0,none⟩),u] w1 fun e w2=>e=.returned (.bool true)∧A2 eb w2)
  (h2f:late=false→∀ eb w1,A2 eb w1→A3 eb w1)
  (h16b:late=true→∀ eb w1,A2 eb w1→Calls Tryz.prog 16 #[.pointer (some ⟨eb,0,none⟩),.string nmV,.string (qryT 0),.string noO] w1 fun e w2=>e=.returned (.bool true)∧A3 eb w2)
  (hrd:∀ eb w1,A3 eb w1→Calls Tryz.prog 19 #[.pointer (some ⟨eb,0,none⟩),.string nmR] w1 fun e w2=>∃ vr,e=.returned (.tuple #[vr,.int .i64 0]) ∧
   Calls Tryz.prog 19 #[.pointer (some ⟨eb,0,none⟩),.string nmS] w2 fun e w3=>∃ vs,e=.returned (.tuple #[vs,.int .i64 0]) ∧
   Calls Tryz.prog 20 #[.pointer (some ⟨eb,0,none⟩),.string nmV] w3 fun e w4=>∃ vv,e=.returned (.tuple #[vv,.int .i64 0]) ∧
    (∃ f g F yr ys yv,zql w4 f g F vr vs vv yr ys yv)∧Below w.heap.size w w4) :
  Calls Tryz.prog 10 #[vc,.bool late] w fun e w'=>e=.returned (.bool true)∧Below w.heap.size w w':=by
 have H14:=hide h14
 have H1t:=hide h1t
 have H16:=hide h16
 have H18:=hide h18
 have H17:=hide h17
 have H2f:=hide h2f
 have H16b:=hide h16b
 have Hrd:=hide hrd
 clear h14 h1t h16 h18 h17 h2f h16b hrd
 have hq:∀ W,Hid (Calls Tryz.prog 15 #[.int .i64 0] W fun e w'=>e=.returned (.tuple #[.string (qryT 0),.string (qryV 0)])∧w'=W):=fun W=>zzh 0 W (by omega) (by omega)
 generalize qryT 0=qt at *
 generalize qryV 0=qv at *
 cases late with
 | false =>
  have H16':=hide ((zaa H16) rfl)
  have H2f':=hide ((zaa H2f) rfl)
  clear H16 H2f H1t H16b
  go_enter Tryz.func10,Tryz.ntmps10
  go_wp2_with fail
  refine (zaa H14).mono ?_
  rintro e w1 ⟨eb,rfl,hA⟩
  have Hv:=hide ((zaa H16') eb w1 hA)
  clear hA H16' H14
  go_wp2_with (first|(go_at_call 15;refine (zaa (hq _)).mono ?_;rintro e w2 ⟨rfl,hw⟩;replace hw:=hw.symm;subst hw))
  refine (zaa Hv).mono ?_
  rintro e w2 ⟨rfl,hA1⟩
  have Hb:=hide ((zaa H18) eb w2 hA1)
  clear hA1 Hv H18
  go_wp2_with fail
  refine (zaa Hb).mono ?_
  rintro e w3 ⟨u,rfl,hA1b⟩
  have Ha:=hide ((zaa H17) eb u w3 hA1b)
  clear hA1b Hb H17
  go_wp2_with fail
  refine (zaa Ha).mono ?_
  rintro e w4 ⟨rfl,hA2⟩
  have Hr:=hide ((zaa Hrd) eb w4 ((zaa H2f') eb w4 hA2))
  clear hA2 Ha Hrd H2f'
  go_wp2_with fail
  refine (zaa Hr).mono ?_
  rintro e w5 ⟨vr,rfl,h5⟩
  have H5:=hide h5
  clear h5 Hr
  go_wp2_with fail
  refine (zaa H5).mono ?_
  rintro e w6 ⟨vs,rfl,h6⟩
  have H6:=hide h6
  clear h6 H5
  go_wp2_with fail
  refine (zaa H6).mono ?_
  rintro e w7 ⟨vv,rfl,⟨f,g,F,yr,ys,yv,hP⟩,hB7⟩
  obtain ⟨av,cv,hvv,_⟩:=hP.rv
  have hlv:(H.zbz 2 F yv).length=yv.length:=by simp [H.zbz]
  rw [hlv] at hvv
  have hl6:=hP.lv
  have Hri:=hide (zn3 vv (H.zbz 2 F yv) w7 hP.rv (by rw [hlv];omega) (ziu _ _ _) (risesH (fun y hy=>zj2 (hP.pf.supp y (hP.fv.wf y hy) ((hP.fv.mem y (hP.fv.wf y hy)).1 hy))) hP.fv))
  have hcnt:zef (fun i=>decide (psum f g (numZ i) (numZ ((i:Int) / 4)) 4≠0)) 16=yv.length:=by
   rw [← zsi hP.fv (fun y hy=>hP.pf.supp y (hP.fv.wf y hy) ((hP.fv.mem y (hP.fv.wf y hy)).1 hy)) zvv]
   congr 1
   funext i
   rw [show rowH i=(numZ i,numZ ((i:Int) / 4),0,0) from rfl,hP.pf.eq _ _ (zbj _) (zbj _)]
  have HP:=hide hP
  have HB7:=hide hB7
  have Hcnt:=hide hcnt
  subst hvv
  clear hP hB7 hcnt H6
  go_wp2_with fail
  refine (zaa Hri).mono ?_
  rintro e w8 ⟨rfl,hd8⟩
  have HB8:=hide (hd8.below w7.heap.size)
  clear hd8 Hri
  go_wp2
  go_loopw [18,19] (fun n i wr=>∃ k:Nat,k≤16∧n=.int .i64 (zef (fun i=>decide (psum f g (numZ i) (numZ ((i:Int) / 4)) 4≠0)) k:Nat)∧i=.int .i64 k∧Below w7.heap.size w7 wr) (fun _ i _=>16 - (intOf i).toNat)
  case atStart=>exact ⟨0,Nat.zero_le _,rfl,rfl,zaa HB8⟩
  case round =>
   obtain ⟨k,hk,rfl,rfl,hbk⟩:=hrel
   obtain ⟨cn,hcn⟩:∃ cn,cn=zef (fun i=>decide (psum f g (numZ i) (numZ ((i:Int) / 4)) 4≠0)) k:=⟨_,rfl⟩
   by_cases hlt:k<16
   ·have hkz:(k:Int)<16:=by omega
    have hcl:cn≤k:=by rw [hcn,zlp];exact Nat.le_trans (List.length_filter_le _ _) (by simp)
    have hnext:zef (fun i=>decide (psum f g (numZ i) (numZ ((i:Int) / 4)) 4≠0)) (k+1)=cn+(if psum f g (numZ k) (numZ ((k:Int) / 4)) 4≠0 then 1 else 0):=by
     rw [zef,← hcn]
     by_cases h0:psum f g (numZ k) (numZ ((k:Int) / 4)) 4=0
     ·simp [h0]
     ·simp [h0]
    rw [← hcn]
    have Hnext:=hide hnext
    have Hbk:=hide hbk
    clear hnext hbk hcn
    go_wp2_with fail
    refine (zdn _ _ (by omega) (by omega)).mono ?_
    rintro e w9 ⟨rfl,hb9⟩
    have Hb9:=hide ((zaa Hbk).trans (hb9.mono (zaa Hbk).size))
    clear hb9 Hbk
    go_wp2_with fail
    refine (zdn _ _ (by omega) (by omega)).mono ?_
    rintro e w10 ⟨rfl,hb10⟩
    have Hb10:=hide ((zaa Hb9).trans (hb10.mono (zaa Hb9).size))
    clear hb10 Hb9
    obtain ⟨a,ha⟩:∃ a,a=numZ k:=⟨_,rfl⟩
    obtain ⟨c,hc⟩:∃ c,c=numZ ((k:Int) / 4):=⟨_,rfl⟩
    have hma:a∈nums:=by rw [ha];exact zbj _
    have hmc:c∈nums:=by rw [hc];exact zbj _
    rw [← ha,← hc] at Hnext
    rw [← ha,← hc]
    have Hma:=hide hma
    have Hmc:=hide hmc
    clear ha hc hma hmc
    go_wp2
    go_loopw [22,23] (fun s i wr=>∃ j:Nat,j≤4∧s=.int .i64 (psum f g a c j)∧i=.int .i64 j∧Below w7.heap.size w7 wr) (fun _ i _=>4 - (intOf i).toNat)
    case atStart=>exact ⟨0,Nat.zero_le _,rfl,rfl,zaa Hb10⟩
    case round =>
     obtain ⟨j,hj,rfl,rfl,hbj⟩:=hrel
     obtain ⟨S,hS⟩:∃ S,S=psum f g a c j:=⟨_,rfl⟩
     have hSb:=zhq (zaa HP).bf (zaa HP).bg (zaa Hma) (zaa Hmc) j
     rw [← hS] at hSb ⊢
     by_cases hjl:j<4
     ·have hjz:(j:Int)<4:=by omega
      have hsn:psum f g a c (j+1)=S+f (a,numZ j,0)*g (numZ j,c,0):=by rw [hS];rfl
      have Hsn:=hide hsn
      have Hbj:=hide hbj
      clear hsn hbj hS
      go_wp2_with fail
      refine (zdn _ _ (by omega) (by omega)).mono ?_
      rintro e w11 ⟨rfl,hb11⟩
      have hb11':=(zaa Hbj).trans (hb11.mono (zaa Hbj).size)
      obtain ⟨y,hy⟩:∃ y,y=numZ j:=⟨_,rfl⟩
      have hmy:y∈nums:=by rw [hy];exact zbj _
      rw [← hy] at Hsn
      rw [← hy]
      have b1:=(zaa HP).bf (a,y,0) ⟨zb1 (zaa Hma),zb1 hmy,zca⟩
      have b2:=(zaa HP).bg (y,c,0) ⟨zb1 hmy,zb1 (zaa Hmc),zca⟩
      have b3:=zmv b1 b2
      have Hw1:=hide ((zaa HP).wr (zaa Hma) hmy w11 hb11')
      have Hw2:∀ W,Below w7.heap.size w7 W→Hid _:=fun W hW=>hide ((zaa HP).ws hmy (zaa Hmc) W hW)
      generalize f (a,y,0)=p1 at *
      generalize g (y,c,0)=p2 at *
      clear hb11 hy hb11' Hbj
      go_wp2_with fail
      refine (zaa Hw1).mono ?_
      rintro e w12 ⟨rfl,hb12⟩
      have Hw3:=Hw2 w12 hb12
      clear Hw2 Hw1 hb12
      go_wp2_with fail
      refine (zaa Hw3).mono ?_
      rintro e w13 ⟨rfl,hb13⟩
      have Hb13:=hide hb13
      clear hb13 Hw3
      go_wp2
      go_roundw
      case rel=>exact ⟨j+1,by omega,by rw [zaa Hsn],by go_num,zaa Hb13⟩
      case measure=>simp [intOf];omega
     ·have hj4:j=4:=by omega
      subst hj4
      have Hw:=hide ((zaa HP).wv (zaa Hma) (zaa Hmc) wr hbj)
      rw [← hS] at Hw
      rw [← hS] at Hnext
      have hSS:(S != S)=false:=by simp
      clear hbj hS
      go_wp2_with fail
      refine (zaa Hw).mono ?_
      rintro e w14 ⟨rfl,hb14⟩
      have Hb14:=hide hb14
      clear hb14 Hw
      by_cases h0:S=0
      ·have h0b:(S != 0)=false:=by simp [h0]
       have hn:=zaa Hnext
       rw [if_neg (by simp [h0]),Nat.add_zero] at hn
       have Hn:=hide hn
       clear h0 hn Hnext
       go_wp2
       go_roundw
       case rel=>exact ⟨k+1,by omega,by rw [zaa Hn];rfl,by go_num,zaa Hb14⟩
       case measure=>simp [intOf];omega
      ·have h0b:(S != 0)=true:=by simp [h0]
       have hn:=zaa Hnext
       rw [if_pos h0] at hn
       have Hn:=hide hn
       clear h0 hn Hnext
       go_wp2
       go_roundw
       case rel=>exact ⟨k+1,by omega,by rw [zaa Hn];go_num,by go_num,zaa Hb14⟩
       case measure=>simp [intOf];omega
   ·have hk16:k=16:=by omega
    subst hk16
    rw [zaa Hcnt]
    have HF:=hide ((zaa HB7).trans (hbk.mono (zaa HB7).size))
    clear hbk
    go_wp2
    go_ret
    exact ⟨rfl,zaa HF⟩
 | true =>
  have H16':=hide ((zaa H16b) rfl)
  have H1t':=hide ((zaa H1t) rfl)
  clear H16 H2f H1t H16b
  go_enter Tryz.func10,Tryz.ntmps10
  go_wp2_with fail
  refine (zaa H14).mono ?_
  rintro e w1 ⟨eb,rfl,hA⟩
  have Hb:=hide ((zaa H18) eb w1 ((zaa H1t') eb w1 hA))
  clear hA H1t' H14 H18
  go_wp2_with (first|(go_at_call 15;refine (zaa (hq _)).mono ?_;rintro e w2 ⟨rfl,hw⟩;replace hw:=hw.symm;subst hw))
  refine (zaa Hb).mono ?_
  rintro e w3 ⟨u,rfl,hA1b⟩
  have Ha:=hide ((zaa H17) eb u w3 hA1b)
  clear hA1b Hb H17
  go_wp2_with fail
  refine (zaa Ha).mono ?_
  rintro e w4 ⟨rfl,hA2⟩
  have Hv:=hide ((zaa H16') eb w4 hA2)
  clear hA2 Ha H16'
  go_wp2_with fail
  refine (zaa Hv).mono ?_
  rintro e w4 ⟨rfl,hA3⟩
  have Hr:=hide ((zaa Hrd) eb w4 hA3)
  clear hA3 Hv Hrd
  go_wp2_with fail
  refine (zaa Hr).mono ?_
  rintro e w5 ⟨vr,rfl,h5⟩
  have H5:=hide h5
  clear h5 Hr
  go_wp2_with fail
  refine (zaa H5).mono ?_
  rintro e w6 ⟨vs,rfl,h6⟩
  have H6:=hide h6
  clear h6 H5
  go_wp2_with fail
  refine (zaa H6).mono ?_
  rintro e w7 ⟨vv,rfl,⟨f,g,F,yr,ys,yv,hP⟩,hB7⟩
  obtain ⟨av,cv,hvv,_⟩:=hP.rv
  have hlv:(H.zbz 2 F yv).length=yv.length:=by simp [H.zbz]
  rw [hlv] at hvv
  have hl6:=hP.lv
  have Hri:=hide (zn3 vv (H.zbz 2 F yv) w7 hP.rv (by rw [hlv];omega) (ziu _ _ _) (risesH (fun y hy=>zj2 (hP.pf.supp y (hP.fv.wf y hy) ((hP.fv.mem y (hP.fv.wf y hy)).1 hy))) hP.fv))
  have hcnt:zef (fun i=>decide (psum f g (numZ i) (numZ ((i:Int) / 4)) 4≠0)) 16=yv.length:=by
   rw [← zsi hP.fv (fun y hy=>hP.pf.supp y (hP.fv.wf y hy) ((hP.fv.mem y (hP.fv.wf y hy)).1 hy)) zvv]
   congr 1
   funext i
   rw [show rowH i=(numZ i,numZ ((i:Int) / 4),0,0) from rfl,hP.pf.eq _ _ (zbj _) (zbj _)]
  have HP:=hide hP
  have HB7:=hide hB7
  have Hcnt:=hide hcnt
  subst hvv
  clear hP hB7 hcnt H6
  go_wp2_with fail
  refine (zaa Hri).mono ?_
  rintro e w8 ⟨rfl,hd8⟩
  have HB8:=hide (hd8.below w7.heap.size)
  clear hd8 Hri
  go_wp2
  go_loopw [18,19] (fun n i wr=>∃ k:Nat,k≤16∧n=.int .i64 (zef (fun i=>decide (psum f g (numZ i) (numZ ((i:Int) / 4)) 4≠0)) k:Nat)∧i=.int .i64 k∧Below w7.heap.size w7 wr) (fun _ i _=>16 - (intOf i).toNat)
  case atStart=>exact ⟨0,Nat.zero_le _,rfl,rfl,zaa HB8⟩
  case round =>
   obtain ⟨k,hk,rfl,rfl,hbk⟩:=hrel
   obtain ⟨cn,hcn⟩:∃ cn,cn=zef (fun i=>decide (psum f g (numZ i) (numZ ((i:Int) / 4)) 4≠0)) k:=⟨_,rfl⟩
   by_cases hlt:k<16
   ·have hkz:(k:Int)<16:=by omega
    have hcl:cn≤k:=by rw [hcn,zlp];exact Nat.le_trans (List.length_filter_le _ _) (by simp)
    have hnext:zef (fun i=>decide (psum f g (numZ i) (numZ ((i:Int) / 4)) 4≠0)) (k+1)=cn+(if psum f g (numZ k) (numZ ((k:Int) / 4)) 4≠0 then 1 else 0):=by
     rw [zef,← hcn]
     by_cases h0:psum f g (numZ k) (numZ ((k:Int) / 4)) 4=0
     ·simp [h0]
     ·simp [h0]
    rw [← hcn]
    have Hnext:=hide hnext
    have Hbk:=hide hbk
    clear hnext hbk hcn
    go_wp2_with fail
    refine (zdn _ _ (by omega) (by omega)).mono ?_
    rintro e w9 ⟨rfl,hb9⟩
    have Hb9:=hide ((zaa Hbk).trans (hb9.mono (zaa Hbk).size))
    clear hb9 Hbk
    go_wp2_with fail
    refine (zdn _ _ (by omega) (by omega)).mono ?_
    rintro e w10 ⟨rfl,hb10⟩
    have Hb10:=hide ((zaa Hb9).trans (hb10.mono (zaa Hb9).size))
    clear hb10 Hb9
    obtain ⟨a,ha⟩:∃ a,a=numZ k:=⟨_,rfl⟩
    obtain ⟨c,hc⟩:∃ c,c=numZ ((k:Int) / 4):=⟨_,rfl⟩
    have hma:a∈nums:=by rw [ha];exact zbj _
    have hmc:c∈nums:=by rw [hc];exact zbj _
    rw [← ha,← hc] at Hnext
    rw [← ha,← hc]
    have Hma:=hide hma
    have Hmc:=hide hmc
    clear ha hc hma hmc
    go_wp2
    go_loopw [22,23] (fun s i wr=>∃ j:Nat,j≤4∧s=.int .i64 (psum f g a c j)∧i=.int .i64 j∧Below w7.heap.size w7 wr) (fun _ i _=>4 - (intOf i).toNat)
    case atStart=>exact ⟨0,Nat.zero_le _,rfl,rfl,zaa Hb10⟩
    case round =>
     obtain ⟨j,hj,rfl,rfl,hbj⟩:=hrel
     obtain ⟨S,hS⟩:∃ S,S=psum f g a c j:=⟨_,rfl⟩
     have hSb:=zhq (zaa HP).bf (zaa HP).bg (zaa Hma) (zaa Hmc) j
     rw [← hS] at hSb ⊢
     by_cases hjl:j<4
     ·have hjz:(j:Int)<4:=by omega
      have hsn:psum f g a c (j+1)=S+f (a,numZ j,0)*g (numZ j,c,0):=by rw [hS];rfl
      have Hsn:=hide hsn
      have Hbj:=hide hbj
      clear hsn hbj hS
      go_wp2_with fail
      refine (zdn _ _ (by omega) (by omega)).mono ?_
      rintro e w11 ⟨rfl,hb11⟩
      have hb11':=(zaa Hbj).trans (hb11.mono (zaa Hbj).size)
      obtain ⟨y,hy⟩:∃ y,y=numZ j:=⟨_,rfl⟩
      have hmy:y∈nums:=by rw [hy];exact zbj _
      rw [← hy] at Hsn
      rw [← hy]
      have b1:=(zaa HP).bf (a,y,0) ⟨zb1 (zaa Hma),zb1 hmy,zca⟩
      have b2:=(zaa HP).bg (y,c,0) ⟨zb1 hmy,zb1 (zaa Hmc),zca⟩
      have b3:=zmv b1 b2
      have Hw1:=hide ((zaa HP).wr (zaa Hma) hmy w11 hb11')
      have Hw2:∀ W,Below w7.heap.size w7 W→Hid _:=fun W hW=>hide ((zaa HP).ws hmy (zaa Hmc) W hW)
      generalize f (a,y,0)=p1 at *
      generalize g (y,c,0)=p2 at *
      clear hb11 hy hb11' Hbj
      go_wp2_with fail
      refine (zaa Hw1).mono ?_
      rintro e w12 ⟨rfl,hb12⟩
      have Hw3:=Hw2 w12 hb12
      clear Hw2 Hw1 hb12
      go_wp2_with fail
      refine (zaa Hw3).mono ?_
      rintro e w13 ⟨rfl,hb13⟩
      have Hb13:=hide hb13
      clear hb13 Hw3
      go_wp2
      go_roundw
      case rel=>exact ⟨j+1,by omega,by rw [zaa Hsn],by go_num,zaa Hb13⟩
      case measure=>simp [intOf];omega
     ·have hj4:j=4:=by omega
      subst hj4
      have Hw:=hide ((zaa HP).wv (zaa Hma) (zaa Hmc) wr hbj)
      rw [← hS] at Hw
      rw [← hS] at Hnext
      have hSS:(S != S)=false:=by simp
      clear hbj hS
      go_wp2_with fail
      refine (zaa Hw).mono ?_
      rintro e w14 ⟨rfl,hb14⟩
      have Hb14:=hide hb14
      clear hb14 Hw
      by_cases h0:S=0
      ·have h0b:(S != 0)=false:=by simp [h0]
       have hn:=zaa Hnext
       rw [if_neg (by simp [h0]),Nat.add_zero] at hn
       have Hn:=hide hn
       clear h0 hn Hnext
       go_wp2
       go_roundw
       case rel=>exact ⟨k+1,by omega,by rw [zaa Hn];rfl,by go_num,zaa Hb14⟩
       case measure=>simp [intOf];omega
      ·have h0b:(S != 0)=true:=by simp [h0]
       have hn:=zaa Hnext
       rw [if_pos h0] at hn
       have Hn:=hide hn
       clear h0 hn Hnext
       go_wp2
       go_roundw
       case rel=>exact ⟨k+1,by omega,by rw [zaa Hn];go_num,by go_num,zaa Hb14⟩
       case measure=>simp [intOf];omega
   ·have hk16:k=16:=by omega
    subst hk16
    rw [zaa Hcnt]
    have HF:=hide ((zaa HB7).trans (hbk.mono (zaa HB7).size))
    clear hbk
    go_wp2
    go_ret
    exact ⟨rfl,zaa HF⟩
end K
end Go.Proofs.YtoifcnidhfnapaaGreatDoor
namespace Go.Proofs.YtoifcnidhfnapaaGreatDoor
namespace K
open Go.RowKit Go.Maps Go.Sort Go.Shelf
def fitB (H:List (Nat×Nat)) (B:List zbe):Bool:=
 decide (H.length≤4) && decide (B.length≤4) && B.all (fun a=>decide (a.ts.length≤3)) && H.all (fun x=>decide (x.1<256)) && B.all (fun a=>a.ts.all fun t=>decide (t.1<256)) && !B.isEmpty &&
  B.all (fun a=>(decide (a.nm=nmR) && decide (a.ts.length=2)) || (decide (a.nm=nmS) && decide (a.ts.length=2)) || (decide (a.nm=nmT) && decide (a.ts.length=1))) &&
  H.all (fun x=>decide (x.1≠0) && B.any fun a=>a.ts.any fun t=>decide (t.1=x.1)) && B.all (fun a=>a.ts.all fun t=>decide (LetOK t.1))
theorem fit_of {H:List (Nat×Nat)} {B:List zbe} (h:fitB H B=true) {st:St} (hR:∃ R,st nmR=some R∧R.ar=2) (hS:∃ R,st nmS=some R∧R.ar=2) (hT:∃ R,st nmT=some R∧R.ar=1):zda st H B∧LetB B:=by
 unfold fitB at h
 simp only [Bool.and_eq_true,Bool.or_eq_true,Bool.not_eq_true',decide_eq_true_eq,List.all_eq_true,List.any_eq_true] at h
 obtain ⟨⟨⟨⟨⟨⟨⟨⟨h1,h2⟩,h3⟩,h4⟩,h5⟩,h6⟩,h7⟩,h8⟩,h9⟩:=h
 refine ⟨⟨⟨h1,h2,h3,h4,h5⟩,fun e=>(by rw [e] at h6;cases h6),fun a ha=>?_,fun a ha=>?_,fun x hx=>⟨(h8 x hx).1,?_⟩⟩,h9⟩
 ·rcases h7 a ha with (⟨e,_⟩|⟨e,_⟩)|⟨e,_⟩ <;> rw [e] <;> decide
 ·rcases h7 a ha with (⟨e,e2⟩|⟨e,e2⟩)|⟨e,e2⟩
  ·obtain ⟨R,r1,r2⟩:=hR;exact ⟨R,by rw [e];exact r1,by rw [e2,r2]⟩
  ·obtain ⟨R,r1,r2⟩:=hS;exact ⟨R,by rw [e];exact r1,by rw [e2,r2]⟩
  ·obtain ⟨R,r1,r2⟩:=hT;exact ⟨R,by rw [e];exact r1,by rw [e2,r2]⟩
 ·obtain ⟨a,ha,t,ht,e⟩:=(h8 x hx).2
  exact zee.2 ⟨a.ts,List.mem_map.2 ⟨a,ha,rfl⟩,t,ht,e⟩
theorem qry_fitB (c:Int):fitB (qryP (zcm c 8)).1 ((qryP (zcm c 8)).2.map zcb.q)=true:=eight (P:=fun k=>fitB (qryP k).1 ((qryP k).2.map zcb.q)=true) (by decide +kernel) (by decide +kernel) (by decide +kernel) (by decide +kernel) (by decide +kernel) (by decide +kernel) (by decide +kernel) (by decide +kernel) c
theorem qry_size (c:Int):(qryT (zcm c 8)).size≤300:=eight (P:=fun k=>(qryT k).size≤300) (by decide) (by decide) (by decide) (by decide) (by decide) (by decide) (by decide) (by decide) c
theorem Stg.fit {B0:Nat} {W:World} {fix:Nat→Prop} {eb db nI nV M:Nat} {fl:List Ent} {R S T:Rel} {ixs:IxS} {vws:VwS} (h:Stg B0 W fix eb db nI nV M fl R S T ixs vws) {H:List (Nat×Nat)} {B:List zbe} (hf:fitB H B=true):zda (stF R S T fl) H B∧LetB B:=
 fit_of hf ⟨_,zsj _ _ _,h.three.r.ar_⟩ ⟨_,zrr _ _ _,h.three.s.ar_⟩ ⟨_,zyc _ _ _,h.three.t.ar_⟩
theorem nameV:zge nmV=true:=by decide
theorem zod {B:Nat} {w W W':World} {X:Nat→Prop} (h:Below B w W) (hB:B≤W.heap.size) (k:KeepX X W W') (hX:∀ q,X q→B≤q):Below B w W':=
 h.trans ⟨k.os,k.tape,k.output,k.size,fun q hq=>k.blk q (by omega) (fun hx=>by have:=hX q hx;omega)⟩
theorem yaf (codes:List Int):(zfr codes).length≤401:=by
 have h:=(zps (codes.take 400)).2
 have h2:(codes.take 400).length≤400:=by simp;omega
 unfold zfr
 split
 ·rw [List.length_append];simp;omega
 ·omega
theorem zxw (codes:List Int):(zfr codes).flatten.length≤400:=by
 rw [zow,List.length_map]
 simp
 omega
theorem Stg.paths {B0:Nat} {W:World} {fix:Nat→Prop} {eb db nI nV M:Nat} {fl:List Ent} {R S T:Rel} {ixs:IxS} {vws:VwS} (h:Stg B0 W fix eb db nI nV M fl R S T ixs vws) {nm:ByteArray} {v:ze3} (hv:vws nm=some v) (hH:v.H=(qryP 0).1) (hB:v.B=(qryP 0).2.map zcb.q) :
  PathsF (zao R fl nmR).f (zao S fl nmS).f v.f:=by
 have h3:=h.three
 have hl:=h.len
 have hval:=fun q=>h.val hv q
 rw [hH,hB] at hval
 have e1:((qryP 0).2.map zcb.q).map (·.ts)=zer:=rfl
 have e2:(qryP 0).1.map (·.1)=zhe:=rfl
 rw [e1,e2] at hval
 have l0:zgv (stF R S T fl) ((qryP 0).2.map zcb.q) 0=za3 (zao R fl nmR).f (zdt.filter fun r=>decide ((zao R fl nmR).f r≠0)):=by
  unfold zgv
  have:stF R S T fl (((qryP 0).2.map zcb.q)[0]?.getD zar).nm=some (zao R fl nmR):=zsj _ _ _
  rw [this]
  dsimp only
  rw [if_neg (by rw [h3.r.ar_];decide)]
 have l1:zgv (stF R S T fl) ((qryP 0).2.map zcb.q) 1=za3 (zao S fl nmS).f (zdt.filter fun r=>decide ((zao S fl nmS).f r≠0)):=by
  unfold zgv
  have:stF R S T fl (((qryP 0).2.map zcb.q)[1]?.getD zar).nm=some (zao S fl nmS):=zrr _ _ _
  rw [this]
  dsimp only
  rw [if_neg (by rw [h3.s.ar_];decide)]
 refine ⟨fun a c ha hc=>?_,fun q hq h0=>?_⟩
 ·refine zy9 (fun r hr=>?_) (fun r hr=>?_) (L:=zgv (stF R S T fl) ((qryP 0).2.map zcb.q)) ?_ ?_ ha hc (h.range hv ⟨zb1 ha,zb1 hc,zca,zca⟩) (hval _)
  ·have:=h3.r.lo r hr;have:=h3.r.hi r hr;omega
  ·have:=h3.s.lo r hr;have:=h3.s.hi r hr;omega
  ·rw [l0];exact (zgz h3.r zgm zln).2
  ·rw [l1];exact (zgz h3.s zgm zln).2
 ·have hz:vval zer zhe (zgv (stF R S T fl) ((qryP 0).2.map zcb.q)) q≠0#64:=fun hz=>h0 (zml (h.range hv hq) (by omega) ((hval q).trans hz))
  obtain ⟨r,hr,_,rfl⟩:=zrj hz
  rw [zoa]
  obtain ⟨x0,hx0,e0⟩:=hr 0 (by decide)
  obtain ⟨x1,hx1,e1'⟩:=hr 1 (by decide)
  have c0:(r 0).1∈nums:=by
   rw [← e0]
   rcases zir x0 hx0 with h|h
   ·exact zmn h 0
   ·exact zmy h 0
  have c1:(r 1).2.1∈nums:=by
   rw [← e1']
   rcases zir x1 hx1 with h|h
   ·exact zmn h 1
   ·exact zmy h 1
  exact List.mem_flatMap.2 ⟨_,c1,List.mem_map.2 ⟨_,c0,rfl⟩⟩
def PA (w:World) (fl:List Ent) (there:Bool) (Mx:Nat) (eb:Nat) (W:World):Prop:=
 ∃ fix db nI nV M R S T ixs vws,Stg w.heap.size W fix eb db nI nV M fl R S T ixs vws∧Below w.heap.size w W∧nI≤100∧nV≤1∧M≤Mx ∧
  if there then ∃ v,vws nmV=some v∧v.H=(qryP 0).1∧v.B=(qryP 0).2.map zcb.q else nI=0∧nV=0∧vws nmV=none
theorem pa_begun (w:World):Calls Tryz.prog 14 #[] w fun e w'=>∃ eb,e=.returned (.pointer (some ⟨eb,0,none⟩))∧PA w [] false 0 eb w':=by
 refine (zyl w).mono ?_
 rintro e w' ⟨eb,rfl,⟨fix,db,R,S,T,hS⟩,hb⟩
 exact ⟨eb,rfl,fix,db,0,0,0,R,S,T,_,_,hS,hb,by omega,by omega,by omega,rfl,rfl,rfl⟩
theorem zr2 (w:World) (fl:List Ent) (Mx eb:Nat) (W:World) (h:PA w fl false Mx eb W) :
  Calls Tryz.prog 16 #[.pointer (some ⟨eb,0,none⟩),.string nmV,.string (qryT 0),.string noO] W fun e w'=>e=.returned (.bool true)∧PA w fl true (Mx+1000000000000) eb w':=by
 obtain ⟨fix,db,nI,nV,M,R,S,T,ixs,vws,hS,hb,h1,h2,h3,h4,h5,h6⟩:=h
 have hf:=hS.fit (qry_fitB 0)
 refine (zxr nmV (qryT 0) noO (qryP 0).1 (qryP 0).2 W hS hb.size nameV (by decide) h6 (by omega) (qry_size 0) (qry_read 0) hf.1 hf.2 (.inl rfl) (by omega)).mono ?_
 rintro e w' ⟨rfl,fix',ixs',nI',v,hS',hH,hB,hn,hk,_,_,_⟩
 have hdb:=hS.db0
 refine ⟨rfl,fix',db,nI',nV+1,M+1000000000000,R,S,T,ixs',_,hS',zod hb hb.size hk (fun q hq=>by omega),by omega,by omega,by omega,?_⟩
 exact ⟨v,zbu _ _ _,hH,hB⟩
theorem pa_bats (w:World) (vc:Value) (codes:List Int) (hc:zbm w vc codes) (hcl:codes.length≤9223372036854775807) (hcb:∀ c∈codes,-9223372036854775808≤c∧c≤9223372036854775807) (fl:List Ent) (th:Bool) (Mx eb:Nat) (W:World) (h:PA w fl th Mx eb W) :
  Calls Tryz.prog 18 #[vc] W fun e w'=>∃ u,e=.returned u∧PA w fl th Mx eb w'∧zwr w' u (zfr codes):=by
 obtain ⟨fix,db,nI,nV,M,R,S,T,ixs,vws,hS,hb,h4⟩:=h
 refine (bats_any vc codes W (hc.below hb) hcl hcb).mono ?_
 rintro e w' ⟨u,rfl,h1,h2⟩
 exact ⟨u,rfl,⟨fix,db,nI,nV,M,R,S,T,ixs,vws,hS.below h2,hb.trans (h2.mono hb.size),h4⟩,h1.stable⟩
theorem zxa (w:World) (codes:List Int) (th:Bool) (Mx eb:Nat) (u:Value) (W:World) (h:PA w [] th Mx eb W) (hM:Mx≤4000000000000000000) (hu:zwr W u (zfr codes)) :
  Calls Tryz.prog 17 #[.pointer (some ⟨eb,0,none⟩),u] W fun e w'=>e=.returned (.bool true)∧PA w (zfr codes).flatten th (Mx+401*4000000000000) eb w':=by
 obtain ⟨fix,db,nI,nV,M,R,S,T,ixs,vws,hS,hb,h1,h2,h3,h4⟩:=h
 have hl:=yaf codes
 have hm:=zxw codes
 refine (ztf u (zfr codes) W hS hb.size hu (zug codes) (zxs codes) (by simpa using hm) (by omega) (by omega)).mono ?_
 rintro e w' ⟨rfl,ixs',vws',hS',hsame,hk,_⟩
 rw [List.nil_append] at hS'
 refine ⟨rfl,fix,db,nI,nV,_,R,S,T,ixs',vws',hS',zod hb hb.size hk hS.low,h1,h2,by omega,?_⟩
 cases th with
 | true =>
  obtain ⟨v,hv,hH,hB⟩:=h4
  obtain ⟨n',f',hv'⟩:=hsame.2 nmV v hv
  exact ⟨_,hv',hH,hB⟩
 | false=>exact ⟨h4.1,h4.2.1,hsame.1 nmV h4.2.2⟩
theorem pa_read (w:World) (fl:List Ent) (Mx eb:Nat) (W:World) (h:PA w fl true Mx eb W) :
  Calls Tryz.prog 19 #[.pointer (some ⟨eb,0,none⟩),.string nmR] W fun e w2=>∃ vr,e=.returned (.tuple #[vr,.int .i64 0]) ∧
   Calls Tryz.prog 19 #[.pointer (some ⟨eb,0,none⟩),.string nmS] w2 fun e w3=>∃ vs,e=.returned (.tuple #[vs,.int .i64 0]) ∧
   Calls Tryz.prog 20 #[.pointer (some ⟨eb,0,none⟩),.string nmV] w3 fun e w4=>∃ vv,e=.returned (.tuple #[vv,.int .i64 0]) ∧
    (∃ f g F yr ys yv,zql w4 f g F vr vs vv yr ys yv)∧Below w.heap.size w w4:=by
 obtain ⟨fix,db,nI,nV,M,R,S,T,ixs,vws,hS,hb,h1,h2,h3,v,hv,hH,hB⟩:=h
 have h3t:=hS.three
 have hlen:=hS.len
 refine (zvy nmR W hS (zsj _ _ _)).mono ?_
 rintro e w2 ⟨vr,yr,rfl,r1,r2,r3,b2⟩
 refine ⟨vr,rfl,?_⟩
 have hS2:=hS.below b2
 refine (zvy nmS w2 hS2 (zrr _ _ _)).mono ?_
 rintro e w3 ⟨vs,ys,rfl,s1,s2,s3,b3⟩
 refine ⟨vs,rfl,?_⟩
 have hS3:=hS2.below b3
 refine (stg_read nmV w3 hS3 hv).mono ?_
 rintro e w4 ⟨vv,yv,rfl,v1,v2,v3,b4⟩
 rw [h3t.r.ar_] at r2
 rw [h3t.s.ar_] at s2
 have hHl:v.H.length=2:=by rw [hH];rfl
 rw [hHl] at v2
 refine ⟨vv,rfl,⟨_,_,_,yr,ys,yv,(r2.below b3).below b4,s2.below b4,v2,r1,s1,v1,fun y hy=>h3t.r.supp y (r1.wf y hy) ((r1.mem y (r1.wf y hy)).1 hy),fun y hy=>h3t.s.supp y (s1.wf y hy) ((s1.mem y (s1.wf y hy)).1 hy),r3,s3,by omega,fun r hr=>?_,fun r hr=>?_,hS.paths hv hH hB⟩,?_⟩
 ·have:=h3t.r.lo r hr;have:=h3t.r.hi r hr;omega
 ·have:=h3t.s.lo r hr;have:=h3t.s.hi r hr;omega
 ·have c2:=hb.trans (b2.mono hb.size)
  have c3:=c2.trans (b3.mono c2.size)
  exact c3.trans (b4.mono c3.size)
theorem ya3 (vc:Value) (codes:List Int) (late:Bool) (w:World) (hc:zbm w vc codes) (hcl:codes.length≤9223372036854775807) (hcb:∀ c∈codes,-9223372036854775808≤c∧c≤9223372036854775807) :
  Calls Tryz.prog 10 #[vc,.bool late] w fun e w'=>e=.returned (.bool true)∧Below w.heap.size w w':=
 zye vc late w (PA w [] false 0) (PA w [] (!late) 1000000000000) (PA w (zfr codes).flatten (!late) (1000000000000+401*4000000000000)) (PA w (zfr codes).flatten true (1000000000000+401*4000000000000+1000000000000))
  (fun eb u W=>PA w [] (!late) 1000000000000 eb W∧zwr W u (zfr codes))
  (pa_begun w)
  (fun e eb W h=>by
   subst e
   obtain ⟨fix,db,nI,nV,M,R,S,T,ixs,vws,hS,hb,h1,h2,h3,h4⟩:=h
   exact ⟨fix,db,nI,nV,M,R,S,T,ixs,vws,hS,hb,h1,h2,by omega,h4⟩)
  (fun e eb W h=>by
   subst e
   have:=zr2 w [] 0 eb W h
   rw [Nat.zero_add] at this
   exact this)
  (fun eb W h=>pa_bats w vc codes hc hcl hcb [] _ _ eb W h)
  (fun eb u W h=>zxa w codes _ _ eb u W h.1 (by omega) h.2)
  (fun e eb W h=>by
   subst e
   obtain ⟨fix,db,nI,nV,M,R,S,T,ixs,vws,hS,hb,h1,h2,h3,h4⟩:=h
   exact ⟨fix,db,nI,nV,M,R,S,T,ixs,vws,hS,hb,h1,h2,by omega,h4⟩)
  (fun e eb W h=>by
   subst e
   exact zr2 w _ _ eb W h)
  (fun eb W h=>pa_read w _ _ eb W h)
end K
end Go.Proofs.YtoifcnidhfnapaaGreatDoor
