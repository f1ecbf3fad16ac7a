import Derived.Test.YtoifcnidhfnapabGreatDoorDealt1
import Derived.Test.YtoifcnidhfnapabGreatDoorCards
import Derived.Test.YtoifcnidhfnapabGreatDoorTie
import Derived.WalkKit
import Derived.ProofKit
import Derived.OpenShut
import Derived.Deep.DeepHandedRow
import Derived.Deep.DeepWitnessRowRef
import Derived.Lib.LaidTab
import Derived.LaidHandle
import Derived.ChangeOld
import Derived.Below
import Derived.Deep.CutRange
set_option linter.unusedVariables false
set_option linter.unusedSimpArgs false
set_option maxRecDepth 100000
set_option maxHeartbeats 16000000
namespace Go.Proofs.YtoifcnidhfnapabGreatDoor
open Go.RowKit Go.Maps
open Go.ChangeShapes Go.WideShapes Go.ChangeAt
namespace dealtDone
theorem zg0 (os:Os) (started:os.Started) (H:Type) (enc:TypeId×Value→H) (F:Stop.Interp) :
  ReturnsInHanded {} Tryz.checked os 3 .any ((OpenSpec.ofChange Rows.dealtSpec).preRow enc Tryz.prog Tryz.f3 Rows.dealtRow.domain false Rows.dealtRow.laid) (((OpenSpec.ofChange Rows.dealtSpec).at F).post enc Tryz.prog Tryz.f3 false true false false):=by
 refine returnsInHanded_of_row (C:=Tryz.checked) (s:=OpenSpec.ofChange Rows.dealtSpec) Tryz.own started (by kernel_rfl) Tryz.func3
  (witness_row_atRef (enc:=enc) (C:=Tryz.checked) false { World.holding Tryz.prog os ⟨#[],#[],[]⟩ with heap:=zsn (World.holding Tryz.prog os ⟨#[],#[],[]⟩).heap } #[.slice none 0 0,.int .i64 0] rfl (by kernel_rfl) (by kernel_rfl) (by kernel_rfl)
   (OpenSpec.preRow_of_cond 8 (x:=([.nil,.lit (.int .i64 0)],[],[])) (by kernel_rfl) (by kernel_rfl) (fun k hk=>by cases hk) (by kernel_rfl) (laidMetH_of_parts (laidMet_of_run' 8 (by kernel_rfl) (by kernel_rfl)) (by kernel_rfl)))) ?_
 intro W base args ds gs before hval0 hW _ hcond _ _ _ _
 have hval:∀ (j:Nat) t v,Tryz.f3.params[j]? = some t→args[j]? = some v→Value.okWide Tryz.prog W .any base t v:=hval0
 have hW':=hW
 obtain ⟨p,q,hA0,hV,rfl,hfz,hnd⟩:=hW
 have hA:DataW.TrodAll enc Tryz.prog W 0 (fun _=>true) true Tryz.f3.params.toList args.toList ds p:=hA0
 rw [Tryz.params3] at hA hval
 obtain ⟨v0,vs0,d0,ds0,p0,q0,hargs,rfl,rfl,h0,r0⟩:=trodAll_cons hA
 obtain ⟨v1,vs1,d1,ds1,p1,q1,hargs1,rfl,rfl,h1,r1⟩:=trodAll_cons r0
 obtain ⟨rfl,rfl,rfl⟩:=trodAll_nil r1
 obtain rfl:args=#[v0,v1]:=by cases args;simp_all
 obtain ⟨rfl,rfl⟩:=trodVars_none hV
 obtain ⟨a0,len0,cap0,rfl⟩:=okWide_slice Tryz.underlying22 (hval 0 22 v0 rfl rfl)
 obtain ⟨n1,rfl,_,_,b1'⟩:=open_int Tryz.underlying3 (hval 1 3 v1 rfl rfl) h1
 have b1:=bounds_i64 b1'
 have k0:=h0
 have k1:=h1
 have lt0:∀ x∈p0,x.block<W.heap.size:=by obtain ⟨m,hm⟩:=k0;exact DataW.trod_lt m _ _ _ hm
 have lt1:∀ x∈p1,x.block<W.heap.size:=by obtain ⟨m,hm⟩:=k1;exact DataW.trod_lt m _ _ _ hm
 obtain ⟨z0,w0⟩:∃ zs,yf3 .i64 W a0 len0 cap0 zs:=by
  obtain ⟨fuel,hf⟩:=h0
  rcases open_ints Tryz.underlying22 Tryz.underlying3 (by kernel_rfl) hf with ⟨hcs,_⟩|⟨x,l,c,zs,hcs,_,hl,hm,hz,_,hcell,hwz⟩
  ·simp [Value.cells] at hcs
   obtain ⟨rfl,rfl,rfl⟩:=hcs
   exact ⟨[],.inl ⟨rfl,rfl,rfl,rfl⟩⟩
  ·simp [Value.cells] at hcs
   obtain ⟨rfl,rfl,rfl⟩:=hcs
   exact ⟨zs,.inr ⟨_,rfl,hl,hm,by simpa using hz,hcell,hwz⟩⟩
 obtain ⟨i0,l0,c0⟩:=zj7 w0
 clear hA0 hval0
 refine (K.ydc _ (z0.take len0) n1 W i0 l0 c0 b1).mono fun e W' ⟨he,bel⟩=>?_
 subst he
 exact ⟨_,rfl,_,_,_,[],_,[],hW',trodAll_mk1 (shut_bool Tryz.underlying4 _),(trodAll_cons_mk (Below.trod Tryz.laidOut (by kernel_rfl) (of_decide_eq_true (by kernel_rfl)) k0 bel lt0) (trodAll_cons_mk (Below.trod Tryz.laidOut (by kernel_rfl) (of_decide_eq_true (by kernel_rfl)) k1 bel lt1) trodAll_mk0)),rfl,bel.frame _,fun h=>by cases h⟩
theorem jf1:(Rows.dealtRow.wf (OpenSpec.ofChange (OpenSpec.ofChange Rows.dealtSpec).bare))=true:=by kernel_rfl
theorem jf2:(laidOutB Tryz.prog)=true:=by kernel_rfl
theorem jf3:(mapsRowed Tryz.prog)=true:=by kernel_rfl
theorem jf4:(Tryz.f3.params.all (Tryz.prog.readableRec ·))=true:=by kernel_rfl
theorem jf5:(namedTie Tryz.prog Rows.dealtRow.named (OpenSpec.ofChange Rows.dealtSpec).bare.vars)=true:=by kernel_rfl
theorem jf6:((Rows.dealtRow.stops == []))=true:=by kernel_rfl
theorem jf7:((Tryz.prog.stops == []))=true:=by kernel_rfl
theorem jf8:((Rows.dealtRow.knobs == []))=true:=by kernel_rfl
theorem jf9:((Tryz.prog.stopKnobs == []))=true:=by kernel_rfl
theorem yll:((Rows.dealtRow.inPlace == Tryz.prog.inPlace 3))=true:=by kernel_rfl
theorem ylm:((Rows.dealtRow.unfollowed == Tryz.prog.unfollowed 3))=true:=by kernel_rfl
theorem yln:((Rows.dealtRow.recurses == Tryz.prog.recurses 3))=true:=by kernel_rfl
theorem ylo:((Rows.dealtRow.named == Tryz.prog.varsNamed 3))=true:=by kernel_rfl
theorem ylp:((Rows.dealtRow.maps == (Tryz.f3.params.toList ++ (OpenSpec.ofChange Rows.dealtSpec).bare.plain.varTypes Tryz.prog).any (Tryz.prog.mapsRec ·)))=true:=by kernel_rfl
theorem ylq:((Rows.dealtRow.ifaces == (Tryz.f3.params.toList ++ (OpenSpec.ofChange Rows.dealtSpec).bare.plain.varTypes Tryz.prog).any (Tryz.prog.ifacesRec ·)))=true:=by kernel_rfl
theorem ylr:((Rows.dealtRow.mapsOut == Tryz.prog.mapsAmong Tryz.f3.resultTypes.toList))=true:=by kernel_rfl
theorem yls:((Rows.dealtRow.loops == (Tryz.f3.params.toList ++ (OpenSpec.ofChange Rows.dealtSpec).bare.plain.varTypes Tryz.prog).any (Tryz.prog.loopsFrom ·)))=true:=by kernel_rfl
theorem ylt:((Rows.dealtRow.wideKeys == (Tryz.f3.params.toList ++ (OpenSpec.ofChange Rows.dealtSpec).bare.plain.varTypes Tryz.prog ++ Tryz.f3.resultTypes.toList).any (Tryz.prog.wideKeysFrom ·)))=true:=by kernel_rfl
theorem ylu:((OpenSpec.ofChange Rows.dealtSpec).bare.vars.all (Tryz.prog.varReadable ·))=true:=by kernel_rfl
theorem ylv:(Tryz.f3.resultTypes.all (fun t=>Tryz.prog.readableRec t && decide (t<Tryz.prog.types.size)))=true:=by kernel_rfl
theorem ylw:((Rows.dealtRow.ifacesOut == Tryz.f3.resultTypes.toList.any (Tryz.prog.ifacesRec ·)))=true:=by kernel_rfl
theorem ylx:((Rows.dealtRow.loopsOut == Tryz.f3.resultTypes.toList.any (Tryz.prog.loopsFrom ·)))=true:=by kernel_rfl
theorem yly:((Rows.dealtRow.plainKeys == Tryz.prog.plainKeys))=true:=by kernel_rfl
theorem ylz:(Rows.dealtRow.shortTexts.isNone)=true:=by kernel_rfl
theorem yl0:(Tryz.prog.stopsHeard)=true:=by kernel_rfl
theorem yl1:(Tryz.prog.mayEnter)=true:=by kernel_rfl
theorem yl2:((Rows.dealtRow.lifted == Tryz.prog.liftsFinal))=true:=by kernel_rfl
theorem yl3:((Tryz.prog.make == some Rows.dealtRow.make))=true:=by kernel_rfl
theorem yl4:((Rows.dealtRow.kinds == (if Rows.dealtRow.domain.isEmpty then [] else Tryz.f3.params.toList.map fun t=>match Tryz.prog.underlying t with|some (.int k)=>some k|_=>none)))=true:=by kernel_rfl
theorem yl5:((Rows.dealtRow.pinned == Rows.dealtRow.pinnedBy))=true:=by kernel_rfl
theorem yl6:((Rows.dealtRow.veiled == (Tryz.f3.params.toList ++ (OpenSpec.ofChange Rows.dealtSpec).bare.plain.varTypes Tryz.prog ++ Tryz.f3.resultTypes.toList).any (Tryz.prog.veiledRec ·)))=true:=by kernel_rfl
theorem yl7:(Rows.dealtRow.veiledFits Tryz.prog Tryz.f3.params.toList (Tryz.f3.params.toList ++ (OpenSpec.ofChange Rows.dealtSpec).bare.plain.varTypes Tryz.prog ++ Tryz.f3.resultTypes.toList))=true:=by kernel_rfl
theorem zb9 {a b:Bool} (ha:a=true) (hb:b=true):(a && b)=true:=by rw [ha,hb];rfl
theorem ydi:joinedFacts Tryz.pinned.checked.prog 3 Tryz.f3 (OpenSpec.ofChange Rows.dealtSpec).bare Rows.dealtRow=true:=(zb9 (zb9 (zb9 (zb9 (zb9 (zb9 (zb9 (zb9 (zb9 (zb9 (zb9 (zb9 (zb9 (zb9 (zb9 (zb9 (zb9 (zb9 (zb9 (zb9 (zb9 (zb9 (zb9 (zb9 (zb9 (zb9 (zb9 (zb9 (zb9 (zb9 (zb9 jf1 jf2) jf3) jf4) jf5) jf6) jf7) jf8) jf9) yll) ylm) yln) ylo) ylp) ylq) ylr) yls) ylt) ylu) ylv) ylw) ylx) yly) ylz) yl0) yl1) yl2) yl3) yl4) yl5) yl6) yl7)
theorem zli:Rows.DealtSaid:=
 OpenClaim.holds_of_cond 3 Tryz.f3 rfl rfl rfl rfl rfl rfl rfl ⟨rfl,rfl,rfl,rfl,rfl⟩ rfl rfl rfl rfl rfl (by kernel_rfl) Tryz.func3 ydi
  (of_decide_eq_true (by kernel_rfl)) (by unfold Func.isWrapper;first|(rw [if_pos (by decide +kernel)];kernel_rfl)|(rw [if_neg (by decide +kernel)];exact ⟨rfl,rfl⟩))
  (fun os started H enc _ F=>by rw [OpenClaim.pre_eq_preRow];exact zg0 os started H enc F)
theorem plain (f:FuncId) (fn:Func) (hf:Tryz.pinned.checked.prog.funcNamed Rows.dealtRow.func=some f) (hfn:Tryz.pinned.checked.prog.funcs[f]? = some fn) :
  true=Tryz.pinned.checked.prog.looks []∧∀ (j:Nat) t,fn.params[j]? = some t→Tryz.pinned.checked.prog.wantsStandIn t=false:=by
 obtain rfl:f=3:=Option.some.inj ((show Tryz.prog.funcNamed Rows.dealtRow.func=some 3 by kernel_rfl).symm.trans hf) |>.symm
 obtain rfl:fn=Tryz.f3:=(Option.some.inj (Tryz.func3.symm.trans hfn)).symm
 refine ⟨by kernel_rfl,fun j t ht=>?_⟩
 rw [Tryz.params3] at ht
 have hm:=Array.mem_of_getElem? ht
 obtain rfl|rfl:t=22∨t=3:=by simpa using hm
 ·exact (show Tryz.prog.wantsStandIn 22=false by kernel_rfl)
 ·exact (show Tryz.prog.wantsStandIn 3=false by kernel_rfl)
theorem zyl:Rows.DealtCardSaid:=
 Claim7.holds_tied_plain_at .later [] _ _ _ _ zli (fun _ h=>by cases h) (by kernel_rfl) (fun _ h=>by cases h) dealt_row_tie rfl ⟨rfl,rfl⟩ (by kernel_rfl) rfl plain (by kernel_rfl)
end dealtDone
end Go.Proofs.YtoifcnidhfnapabGreatDoor

namespace Go.Proofs.YtoifcnidhfnapabGreatDoor
/-- The statement. -/
theorem dealt_holds : Rows.DealtCardSaid := dealtDone.zyl
end Go.Proofs.YtoifcnidhfnapabGreatDoor
