import Derived.Test.YtoifcnidhfnapabGreatDoorB47
set_option linter.unusedVariables false
set_option linter.unusedSimpArgs false
set_option maxRecDepth 100000
set_option maxHeartbeats 16000000
namespace Go.Proofs.YtoifcnidhfnapabGreatDoor
namespace K
open Go.RowKit Go.Maps Go.Sort Go.Shelf
theorem zp0 (w:World):Calls Tryz.prog 7 #[] w fun e w'=>e=.returned (.bool true)∧Below w.heap.size w w':=by
 go_enter Tryz.func7,Tryz.ntmps7
 go_wp2_with fail
 refine (zkz w).mono ?_
 rintro e w1 ⟨s,rfl,hs,hfl,hnI,hnV,hM,hvw,hb⟩
 have Hv:=zac (zia nmV wkQ wkO wkP.1 wkP.2 w1 hs hb.size yd9 (by decide) (by rw [hvw]) (by omega) (by decide) ykd yl8 (.inr yl9) (by omega))
 have Hb:=zac hb
 have Hs:=zac hs
 have Hfl:=zac hfl
 have HM:=zac hM
 clear hs hfl hnI hnV hM hvw hb
 go_wp2_with fail
 refine (zaa Hv).mono ?_
 rintro e w2 ⟨rfl,s2,hs2,ht,heb,hfl2,_,_,hM2,v,hvw,hH,hB⟩
 have hb2:=ht.below (zaa Hs) (zaa Hb) (zaa Hb).size
 have hfl2':s2.fl=[]:=hfl2.trans (zaa Hfl)
 have hM3:s2.M≤8000000000000000000:=by rw [hM2,zaa HM];omega
 obtain ⟨w3,hw3⟩:∃ w3,w3=((w2.alloc (.cells #[.int .i64 1,.int .i64 2] 2)).alloc (.cells #[.int .i64 2,.int .i64 3] 2)).alloc (.cells #[.string nmR,.slice (some ⟨w2.heap.size,0,none⟩) 2 2,.int .i64 1,.string nmR,.slice (some ⟨w2.heap.size+1,0,none⟩) 2 2,.int .i64 2] 49):=⟨_,rfl⟩
 have hb3:Below w2.heap.size w2 w3:=by rw [hw3];exact (((Below.refl _ _).alloc (Nat.le_refl _) _).alloc (by simp) _).alloc (by simp;omega) _
 have g0:w3.heap[w2.heap.size]? = some (.cells #[.int .i64 1,.int .i64 2] 2 (0,0)):=by rw [hw3,Below.heap_alloc _ _ _ (by simp;omega),Below.heap_alloc _ _ _ (by simp)];exact zae _ _ _ rfl
 have g1:w3.heap[w2.heap.size+1]? = some (.cells #[.int .i64 2,.int .i64 3] 2 (0,0)):=by rw [hw3,Below.heap_alloc _ _ _ (by simp)];exact zae _ _ _ (by simp)
 have g2:w3.heap[w2.heap.size+2]? = some (.cells #[.string nmR,.slice (some ⟨w2.heap.size,0,none⟩) 2 2,.int .i64 1,.string nmR,.slice (some ⟨w2.heap.size+1,0,none⟩) 2 2,.int .i64 2] 49 (0,0)):=by rw [hw3];exact zae _ _ _ (by simp)
 have hents:zdr w3 (.slice (some ⟨w2.heap.size+2,0,none⟩) 2 2) wkE:=⟨some ⟨w2.heap.size+2,0,none⟩,2,rfl,fun i hi=>by
  have hi2:i<2:=hi
  match i,hi2 with
  | 0,_=>exact ⟨_,0,_,rfl,zab g2 0,zab g2 1,zeg (zs:=[1,2]) g0 2,zab g2 2⟩
  | 1,_=>exact ⟨_,0,_,rfl,zab g2 3,zab g2 4,zeg (zs:=[2,3]) g1 2,zab g2 5⟩⟩
 have hs3:=hs2.below hb3
 have ha:=yih hs3 hfl2' _ hents hM3
 rw [heb] at ha
 have Heb:=zac heb
 have Ha:=zac ha
 have hel:s.eb<w3.heap.size:=by rw [← heb];exact hs3.eng.flt _ hs3.eng.feb
 have hb3':=hb2.trans (hb3.mono hb2.size)
 have Hb3:=zac hb3'
 have Hs3:=zac hs3
 have Hfl2:=zac hfl2'
 have Hhas:=zac (show s2.has nmV wkP.1 (wkP.2.map zb3.q) from ⟨v,by rw [hvw];exact zbi _ _ _,hH,hB⟩)
 clear hs2 ht hfl2 hfl2' hM2 hM3 hvw hH hB hb2 hb3 hb3' g0 g1 g2 hents hs3 Hv Hs Hfl HM Hb ha heb hel
 subst hw3
 go_wp2_with fail
 refine (zaa Ha).mono ?_
 rintro e w4 ⟨rfl,hk,ixs',vws',hE,hsame⟩
 obtain ⟨v0,hv0,hH0,hB0⟩:=zaa Hhas
 obtain ⟨n',f',hv'⟩:=hsame.2 nmV v0 hv0
 have hr:Calls Tryz.prog 14 #[.pointer (some ⟨s.eb,0,none⟩),.string nmV] w4 fun e w2=>∃ o,e=.returned (.tuple #[o,.int .i64 0])∧zc2 w2 o [([1,3],2)]∧Below w4.heap.size w4 w2:=by
  rw [← zaa Heb] at hE ⊢
  exact yfp (zaa Hs3) (zaa Hfl2) hE hv' hH0 hB0
 have Hr:=zac hr
 have Hb4:=zac (zl4 (zaa Hb3) (zaa Hb3).size hk (zaa Hs3).low)
 clear hk hE hsame hv0 hH0 hB0 hv' hr Ha Hhas Hs3 Hb3
 go_wp2_with fail
 refine (zaa Hr).mono ?_
 rintro e w5 ⟨o,rfl,hrows,hb5⟩
 have Hb5:=zac ((zaa Hb4).trans (hb5.mono (zaa Hb4).size))
 obtain ⟨a,cap,rfl,hc⟩:=hrows
 obtain ⟨b,o,sv,rfl,c0,hi,c1⟩:=hc 0 (by decide)
 obtain ⟨a2,cap2,rfl,hi⟩:=hi
 obtain ⟨b2,o2,rfl,i0⟩:=hi 0 (by decide)
 obtain ⟨b3,o3,hbo,i1⟩:=hi 1 (by decide)
 cases hbo
 simp only [Nat.zero_mul,Nat.add_zero,List.length_cons,List.length_nil,Nat.zero_add,List.getElem?_cons_zero,Option.getD_some] at c0 c1 i0
 have i1':w5.cell? ⟨b2,o2+1,none⟩=some (.int .i64 3):=i1
 clear hc hi hb5 i1 Hb4 Hr
 go_wp2
 go_ret
 exact ⟨rfl,zaa Hb5⟩
end K
end Go.Proofs.YtoifcnidhfnapabGreatDoor
