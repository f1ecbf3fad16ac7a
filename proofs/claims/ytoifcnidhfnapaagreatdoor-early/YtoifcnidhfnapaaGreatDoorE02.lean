import Derived.Test.YtoifcnidhfnapaaGreatDoorE01
import Derived.Deep.CutRange
set_option linter.unusedVariables false
set_option linter.unusedSimpArgs false
namespace Go.Proofs.YtoifcnidhfnapaaGreatDoor
namespace K
open Go.RowKit Go.Maps Go.Sort Go.Shelf
def nmW:ByteArray:=⟨#[119]⟩
theorem nameW:zge nmW=true:=by decide
structure Two (w:World) (s t:ES) (W:World):Prop where
 one:s.At w.heap.size W
 two:t.At w.heap.size W
 ap:s.apart t
 bel:Below w.heap.size w W
theorem Two.below {w W W':World} {s t:ES} (h:Two w s t W) (hb:Below W.heap.size W W'):Two w s t W':=⟨h.one.below hb,h.two.below hb,h.ap,h.bel.trans (hb.mono h.bel.size)⟩
theorem Two.left {w W W':World} {s t s':ES} (h:Two w s t W) (ht:Turns s s' W W') (hs:s'.At w.heap.size W'):Two w s' t W':=by
 obtain ⟨h1,h2⟩:=ht.other h.two h.ap
 exact ⟨hs,h1,h2,ht.below h.one h.bel h.bel.size⟩
theorem Two.right {w W W':World} {s t t':ES} (h:Two w s t W) (ht:Turns t t' W W') (hs:t'.At w.heap.size W'):Two w s t' W':=by
 obtain ⟨h1,h2⟩:=ht.other h.one h.ap.symm
 exact ⟨h1,hs,h2.symm,ht.below h.two h.bel h.bel.size⟩
theorem two_of {w w1 w2:World} {s t:ES} (hs:s.At w.heap.size w1) (hb:Below w.heap.size w w1) (ht:t.At w1.heap.size w2) (hb2:Below w1.heap.size w1 w2):Two w s t w2:=
 ⟨hs.below hb2,ht.mono hb.size,fun q h1 h2=>by have:=hs.lt h1;have:=ht.ge h2;omega,hb.trans (hb2.mono hb.size)⟩
theorem zwr.form {W:World} {u:Value} {bs:List (List Ent)} (h:zwr W u bs):∃ a cap,u=.slice a bs.length cap∧(0<bs.length→∃ b o,a=some ⟨b,o,none⟩):=by
 obtain ⟨a,cap,rfl,hx⟩:=h W (zs3.refl W)
 refine ⟨a,cap,rfl,fun h0=>?_⟩
 obtain ⟨b,o,sv,rfl,_⟩:=hx 0 h0
 exact ⟨b,o,rfl⟩
theorem zwr.take {W:World} {a:Option Addr} {n cap:Nat} {bs:List (List Ent)} (h:zwr W (.slice a n cap) bs) {k:Nat} (hk:k≤n) (cap':Nat):zwr W (.slice a k cap') (bs.take k):=by
 intro w' hk'
 obtain ⟨a',cap2,e,hx⟩:=h w' hk'
 cases e
 have hl:(bs.take k).length=k:=by simp;omega
 refine ⟨a,cap',by rw [hl],fun i hi=>?_⟩
 rw [hl] at hi
 obtain ⟨b,o,sv,h1,h2,h3⟩:=hx i (by omega)
 exact ⟨b,o,sv,h1,h2,by rw [List.getElem?_take_of_lt hi];exact h3⟩
theorem zwr.drop {W:World} {b o n cap:Nat} {bs:List (List Ent)} (h:zwr W (.slice (some ⟨b,o,none⟩) n cap) bs) {k:Nat} (hk:k≤n) (cap':Nat):zwr W (.slice (some ⟨b,o+k,none⟩) (n - k) cap') (bs.drop k):=by
 intro w' hk'
 obtain ⟨a',cap2,e,hx⟩:=h w' hk'
 cases e
 have hl:(bs.drop k).length=bs.length - k:=by simp
 refine ⟨_,cap',by rw [hl],fun i hi=>?_⟩
 rw [hl] at hi
 obtain ⟨b',o',sv,h1,h2,h3⟩:=hx (k+i) (by omega)
 cases h1
 refine ⟨b,o+k,sv,rfl,by rw [Nat.add_assoc];exact h2,by rw [List.getElem?_drop];exact h3⟩
theorem zwr.nil {W:World} (a:Option Addr) (cap:Nat):zwr W (.slice a 0 cap) []:=fun w' _=>⟨a,cap,rfl,fun i hi=>by simp at hi⟩
def IsDrop (a:Option Addr) (n k:Nat) (u:Value):Prop:=(n≤k∧∃ a' m c,m=0∧u=.slice a' m c)∨∃ b o c,a=some ⟨b,o,none⟩∧u=.slice (some ⟨b,o+k,none⟩) (n - k) c
set_option maxRecDepth 100000 in
set_option maxHeartbeats 8000000 in
theorem early_gen (vc:Value) (which when_:Int) (w:World) (hw1:-9223372036854775808≤which∧which≤9223372036854775807) (hw2:-9223372036854775808≤when_∧when_≤9223372036854775807)
  (h:Calls Tryz.prog 14 #[] w fun e w1=>∃ eb,e=.returned (.pointer (some ⟨eb,0,none⟩))∧Calls Tryz.prog 14 #[] w1 fun e w2=>∃ fb,e=.returned (.pointer (some ⟨fb,0,none⟩)) ∧
   Calls Tryz.prog 24 #[] w2 fun e w3=>e=.returned (.bool true)∧Calls Tryz.prog 18 #[vc] w3 fun e w4=>∃ a n cap,e=.returned (.slice a n cap)∧n≤cap∧n≤401∧(0<n→∃ b o,a=some ⟨b,o,none⟩)∧∀ k,k≤n →
   Calls Tryz.prog 16 #[.pointer (some ⟨eb,0,none⟩),.string nmV,.string (qryT (zcm which 8)),.string noO] w4 fun e w5=>e=.returned (.bool true) ∧
   Calls Tryz.prog 17 #[.pointer (some ⟨eb,0,none⟩),.slice a n cap] w5 fun e w6=>e=.returned (.bool true) ∧
   Calls Tryz.prog 17 #[.pointer (some ⟨fb,0,none⟩),.slice a k cap] w6 fun e w7=>e=.returned (.bool true) ∧
   Calls Tryz.prog 16 #[.pointer (some ⟨fb,0,none⟩),.string nmW,.string (qryT (zcm which 8)),.string noO] w7 fun e w8=>e=.returned (.bool true)∧∀ u,IsDrop a n k u →
   Calls Tryz.prog 17 #[.pointer (some ⟨fb,0,none⟩),u] w8 fun e w9=>e=.returned (.bool true) ∧
   Calls Tryz.prog 26 #[.pointer (some ⟨eb,0,none⟩),.string nmV,.pointer (some ⟨fb,0,none⟩),.string nmW] w9 fun e w10=>e=.returned (.bool true)∧Below w.heap.size w w10) :
  Calls Tryz.prog 11 #[vc,.int .i64 which,.int .i64 when_] w fun e w'=>e=.returned (.bool true)∧Below w.heap.size w w':=by
 have Hq:∀ W,Hid (Calls Tryz.prog 15 #[.int .i64 which] W fun e w'=>e=.returned (.tuple #[.string (qryT (zcm which 8)),.string (qryV (zcm which 8))])∧w'=W):=fun W=>zzh which W hw1.1 hw1.2
 have H:=hide h
 clear h
 generalize qryT (zcm which 8)=qt at *
 generalize qryV (zcm which 8)=qv at *
 go_enter Tryz.func11,Tryz.ntmps11
 go_wp2_with fail
 refine (zaa H).mono ?_
 rintro e w1 ⟨eb,rfl,h1⟩
 have H1:=hide h1
 clear h1 H
 go_wp2_with fail
 refine (zaa H1).mono ?_
 rintro e w2 ⟨fb,rfl,h2⟩
 have H2:=hide h2
 clear h2 H1
 go_wp2_with fail
 refine (zaa H2).mono ?_
 rintro e w3 ⟨rfl,h3⟩
 have H3:=hide h3
 clear h3 H2
 go_wp2_with (first|(go_at_call 15;refine (zaa (Hq _)).mono ?_;rintro e w' ⟨rfl,hw⟩;replace hw:=hw.symm;subst hw))
 refine (zaa H3).mono ?_
 rintro e w4 ⟨a,n,cap,rfl,hcap,hn,ha,h4⟩
 obtain ⟨k,hk⟩:∃ k:Nat,(k:Int)=zcm when_ ((n:Int)+1):=⟨(zcm when_ ((n:Int)+1)).toNat,by have:=zdg when_ ((n:Int)+1) (by omega);omega⟩
 have hkr:=zdg when_ ((n:Int)+1) (by omega)
 rw [← hk] at hkr
 have Hp:∀ W,Hid (Calls Tryz.prog 25 #[.int .i64 when_,.int .i64 ((n:Int)+1)] W fun e w'=>e=.returned (.int .i64 k)∧w'=W):=fun W=>by
  have:=zjl when_ ((n:Int)+1) W hw2.1 hw2.2 (by omega) (by omega)
  rw [← hk] at this
  exact this
 have hkl:k≤n:=by omega
 have H4:=hide (h4 k hkl)
 have Ha:=hide ha
 clear hk hkr h4 ha H3 hw1 hw2 Hq
 go_wp2_with (first|(go_at_call 25;refine (zaa (Hp _)).mono ?_;rintro e w' ⟨rfl,hw⟩;replace hw:=hw.symm;subst hw))
 refine (zaa H4).mono ?_
 rintro e w5 ⟨rfl,h5⟩
 have H5:=hide h5
 clear h5 H4 Hp
 go_wp2_with fail
 refine (zaa H5).mono ?_
 rintro e w6 ⟨rfl,h6⟩
 have H6:=hide h6
 clear h6 H5
 go_wp2_with fail
 refine (zaa H6).mono ?_
 rintro e w7 ⟨rfl,h7⟩
 have H7:=hide h7
 clear h7 H6
 go_wp2_with fail
 refine (zaa H7).mono ?_
 rintro e w8 ⟨rfl,h8⟩
 have H8:=hide h8
 clear h8 H7
 rcases Nat.eq_zero_or_pos n with h0|h0
 ·subst h0
  have hk0:k=0:=by omega
  subst hk0
  rcases a with _|ad
  ·go_wp2_with fail
   refine ((zaa H8) _ (.inl ⟨Nat.le_refl _,_,_,_,(by omega),rfl⟩)).mono ?_
   rintro e w9 ⟨rfl,h9⟩
   have H9:=hide h9
   clear h9 H8
   go_wp2_with fail
   refine (zaa H9).mono ?_
   rintro e w10 ⟨rfl,h10⟩
   have H10:=hide h10
   clear h10 H9
   go_wp2
   go_ret
   exact ⟨rfl,zaa H10⟩
  ·by_cases hck:cap=0
   ·subst hck
    go_wp2_with fail
    refine ((zaa H8) _ (.inl ⟨Nat.le_refl _,_,_,_,(by omega),rfl⟩)).mono ?_
    rintro e w9 ⟨rfl,h9⟩
    have H9:=hide h9
    clear h9 H8
    go_wp2_with fail
    refine (zaa H9).mono ?_
    rintro e w10 ⟨rfl,h10⟩
    have H10:=hide h10
    clear h10 H9
    go_wp2
    go_ret
    exact ⟨rfl,zaa H10⟩
   ·go_wp2_with fail
    refine ((zaa H8) _ (.inl ⟨Nat.le_refl _,_,_,_,(by omega),rfl⟩)).mono ?_
    rintro e w9 ⟨rfl,h9⟩
    have H9:=hide h9
    clear h9 H8
    go_wp2_with fail
    refine (zaa H9).mono ?_
    rintro e w10 ⟨rfl,h10⟩
    have H10:=hide h10
    clear h10 H9
    go_wp2
    go_ret
    exact ⟨rfl,zaa H10⟩
 ·obtain ⟨b,o,rfl⟩:=(zaa Ha) h0
  by_cases hck:cap=k
  ·subst hck
   have hnk:n=cap:=by omega
   subst hnk
   have hle:n≤n:=Nat.le_refl _
   go_wp2_with fail
   refine ((zaa H8) _ (.inl ⟨hle,_,_,_,(by omega),rfl⟩)).mono ?_
   rintro e w9 ⟨rfl,h9⟩
   have H9:=hide h9
   clear h9 H8
   go_wp2_with fail
   refine (zaa H9).mono ?_
   rintro e w10 ⟨rfl,h10⟩
   have H10:=hide h10
   clear h10 H9
   go_wp2
   go_ret
   exact ⟨rfl,zaa H10⟩
  ·go_wp2_with fail
   refine ((zaa H8) _ (.inr ⟨_,_,_,rfl,rfl⟩)).mono ?_
   rintro e w9 ⟨rfl,h9⟩
   have H9:=hide h9
   clear h9 H8
   go_wp2_with fail
   refine (zaa H9).mono ?_
   rintro e w10 ⟨rfl,h10⟩
   have H10:=hide h10
   clear h10 H9
   go_wp2
   go_ret
   exact ⟨rfl,zaa H10⟩
theorem early_any (vc:Value) (codes:List Int) (which when_:Int) (w:World) (hc:zbm w vc codes) (hcl:codes.length≤9223372036854775807) (hcb:∀ c∈codes,-9223372036854775808≤c∧c≤9223372036854775807)
  (hw1:-9223372036854775808≤which∧which≤9223372036854775807) (hw2:-9223372036854775808≤when_∧when_≤9223372036854775807) :
  Calls Tryz.prog 11 #[vc,.int .i64 which,.int .i64 when_] w fun e w'=>e=.returned (.bool true)∧Below w.heap.size w w':=by
 refine early_gen vc which when_ w hw1 hw2 ?_
 have hread:=qry_read which
 have hfit:=qry_fitB which
 have hsz:=qry_size which
 have hbl:=yaf codes
 have hbm:=zxw codes
 have hbsh:=zug codes
 have hbf:=zxs codes
 refine (es_begun w).mono ?_
 rintro e w1 ⟨s,rfl,hs,hsf,hsI,hsV,hsM,hsv,hb1⟩
 refine ⟨s.eb,rfl,(es_begun w1).mono ?_⟩
 rintro e w2 ⟨t,rfl,ht,htf,htI,htV,htM,htv,hb2⟩
 have H2:=two_of hs hb1 ht hb2
 refine ⟨t.eb,rfl,(woken_any w2).mono ?_⟩
 rintro e w3 ⟨rfl,hb3⟩
 have H3:=H2.below hb3
 refine ⟨rfl,(bats_any vc codes w3 (hc.below H3.bel) hcl hcb).mono ?_⟩
 rintro e w4 ⟨u,rfl,hu0,hb4⟩
 have hu:=hu0.stable
 obtain ⟨a,cap,rfl,hcap,_⟩:=hu0
 have H4:=H3.below hb4
 generalize zfr codes=bs at *
 refine ⟨a,bs.length,cap,rfl,hcap,hbl,fun h0=>?_,fun k hk=>?_⟩
 ·obtain ⟨a',cap',e,h1⟩:=hu.form
  cases e
  exact h1 h0
 refine (es_viewed nmV _ noO _ _ w4 H4.one H4.bel.size nameV (by decide) (by rw [hsv]) (by omega) hsz hread hfit (.inl rfl) (by omega)).mono ?_
 rintro e w5 ⟨rfl,s2,hs2,ht2,heb2,hfl2,hnI2,hnV2,hM2,v,hvw,hvH,hvB⟩
 have H5:=H4.left ht2 hs2
 have hu5:=hu.keep ht2.keepC
 have hhas2:s2.has nmV (qryP (zcm which 8)).1 ((qryP (zcm which 8)).2.map zcb.q):=⟨v,by rw [hvw];exact zbu _ _ _,hvH,hvB⟩
 rw [← heb2]
 refine ⟨rfl,(es_applies _ bs w5 H5.one H5.bel.size hu5 hbsh hbf (by rw [hfl2,hsf];simpa using hbm) (by omega) (by rw [hM2,hsM];omega)).mono ?_⟩
 rintro e w6 ⟨rfl,s3,hs3,ht3,heb3,hfl3,_,_,_,hsame3⟩
 have H6:=H5.left ht3 hs3
 have hu6:=hu5.keep ht3.keepC
 have hhas3:=hsame3.has hhas2
 have hfl3':s3.fl=bs.flatten:=by rw [hfl3,hfl2,hsf,List.nil_append]
 rw [← heb3]
 refine ⟨rfl,(es_applies _ (bs.take k) w6 H6.two H6.bel.size (hu6.take hk cap) (fun b hb=>hbsh b (List.mem_of_mem_take hb)) (fun b hb=>hbf b (List.mem_of_mem_take hb)) (by have:=zqq bs k;rw [htf];simp only [List.length_nil];omega) (by rw [List.length_take];omega) (by rw [htM];omega)).mono ?_⟩
 rintro e w7 ⟨rfl,t2,ht2',htt2,hebt2,hflt2,hnIt,hnVt,hMt,hsamet⟩
 have H7:=H6.right htt2 ht2'
 have hu7:=hu6.keep htt2.keepC
 have hMt':t2.M≤1604000000000000:=by rw [hMt,htM,List.length_take];omega
 rw [← hebt2]
 refine ⟨rfl,(es_viewed nmW _ noO _ _ w7 H7.two H7.bel.size nameW (by decide) (hsamet.1 nmW (by rw [htv])) (by omega) hsz hread hfit (.inl rfl) (by omega)).mono ?_⟩
 rintro e w8 ⟨rfl,t3,ht3',htt3,hebt3,hflt3,hnI3,hnV3,hM3,v',hvw',hvH',hvB'⟩
 have H8:=H7.right htt3 ht3'
 have hu8:=hu7.keep htt3.keepC
 have hhast:t3.has nmW (qryP (zcm which 8)).1 ((qryP (zcm which 8)).2.map zcb.q):=⟨v',by rw [hvw'];exact zbu _ _ _,hvH',hvB'⟩
 have hflt3':t3.fl=(bs.take k).flatten:=by rw [hflt3,hflt2,htf,List.nil_append]
 rw [← hebt3]
 refine ⟨rfl,fun u hd=>?_⟩
 have hud:zwr w8 u (bs.drop k):=by
  rcases hd with ⟨h1,a',m,c,rfl,rfl⟩|⟨b,o,c,rfl,rfl⟩
  ·rw [List.drop_eq_nil_of_le h1]
   exact zwr.nil a' c
  ·exact hu8.drop hk c
 have hjoin:(bs.take k).flatten ++ (bs.drop k).flatten=bs.flatten:=by rw [← List.flatten_append,List.take_append_drop]
 refine (es_applies u (bs.drop k) w8 H8.two H8.bel.size hud (fun b hb=>hbsh b (List.mem_of_mem_drop hb)) (fun b hb=>hbf b (List.mem_of_mem_drop hb)) (by
   have:=congrArg List.length hjoin
   rw [List.length_append] at this
   rw [hflt3']
   omega) (by rw [List.length_drop];omega) (by rw [hM3];omega)).mono ?_
 rintro e w9 ⟨rfl,t4,ht4,htt4,hebt4,hflt4,_,_,_,hsamet4⟩
 have H9:=H8.right htt4 ht4
 rw [← hebt4]
 refine ⟨rfl,(es_alike nmV nmW w9 H9.one H9.two (fun nm r=>by rw [hfl3',hflt4,hflt3',hjoin]) hhas3 (hsamet4.has hhast)).mono ?_⟩
 rintro e w10 ⟨rfl,hb10⟩
 exact ⟨rfl,H9.bel.trans (hb10.mono H9.bel.size)⟩
end K
end Go.Proofs.YtoifcnidhfnapaaGreatDoor
