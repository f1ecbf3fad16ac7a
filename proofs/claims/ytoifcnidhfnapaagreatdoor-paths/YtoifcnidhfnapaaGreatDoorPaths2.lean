import Derived.Test.YtoifcnidhfnapaaGreatDoorPaths1
import Derived.Test.YtoifcnidhfnapaaGreatDoorCards
import Derived.Test.YtoifcnidhfnapaaGreatDoorTie
import Derived.WalkKit
import Derived.ProofKit
import Derived.OpenShut
import Derived.Deep.DeepHandedRow
import Derived.Deep.DeepWitnessRowRef
import Derived.Lib.LaidTab
import Derived.LaidHandle
import Derived.ChangeOld
import Derived.Below
set_option linter.unusedVariables false
set_option linter.unusedSimpArgs false
set_option maxRecDepth 100000
set_option maxHeartbeats 16000000
namespace Go.Proofs.YtoifcnidhfnapaaGreatDoor
open Go.RowKit Go.Maps
open Go.ChangeShapes Go.WideShapes Go.ChangeAt
namespace pathsDone
theorem zhf (os:Os) (started:os.Started) (H:Type) (enc:TypeId×Value→H) (F:Stop.Interp) :
  ReturnsInHanded {} Tryz.checked os 10 .any ((OpenSpec.ofChange Rows.pathsSpec).preRow enc Tryz.prog Tryz.f10 Rows.pathsRow.domain false Rows.pathsRow.laid) (((OpenSpec.ofChange Rows.pathsSpec).at F).post enc Tryz.prog Tryz.f10 false true false false):=by
 refine returnsInHanded_of_row (C:=Tryz.checked) (s:=OpenSpec.ofChange Rows.pathsSpec) Tryz.own started (by kernel_rfl) Tryz.func10
  (witness_row_atRef (enc:=enc) (C:=Tryz.checked) false { World.holding Tryz.prog os ⟨#[],#[],[]⟩ with heap:=zsa (World.holding Tryz.prog os ⟨#[],#[],[]⟩).heap } #[.slice none 0 0,.bool false] rfl (by kernel_rfl) (by kernel_rfl) (by kernel_rfl)
   (OpenSpec.preRow_of_cond 8 (x:=([.nil,.lit (.bool false)],[],[])) (by kernel_rfl) (by kernel_rfl) (fun k hk=>by cases hk) (by kernel_rfl) (laidMetH_of_parts (laidMet_of_run' 8 (by kernel_rfl) (by kernel_rfl)) (by kernel_rfl)))) ?_
 intro W base args ds gs before hval0 hW _ hcond _ _ _ _
 have hval:∀ (j:Nat) t v,Tryz.f10.params[j]? = some t→args[j]? = some v→Value.okWide Tryz.prog W .any base t v:=hval0
 have hW':=hW
 obtain ⟨p,q,hA0,hV,rfl,hfz,hnd⟩:=hW
 have hA:DataW.TrodAll enc Tryz.prog W 0 (fun _=>true) true Tryz.f10.params.toList args.toList ds p:=hA0
 rw [Tryz.params10] at hA hval
 obtain ⟨v0,vs0,d0,ds0,p0,q0,hargs,rfl,rfl,h0,r0⟩:=trodAll_cons hA
 obtain ⟨v1,vs1,d1,ds1,p1,q1,hargs1,rfl,rfl,h1,r1⟩:=trodAll_cons r0
 obtain ⟨rfl,rfl,rfl⟩:=trodAll_nil r1
 obtain rfl:args=#[v0,v1]:=by cases args;simp_all
 obtain ⟨rfl,rfl⟩:=trodVars_none hV
 obtain ⟨a0,len0,cap0,rfl⟩:=okWide_slice Tryz.underlying25 (hval 0 25 v0 rfl rfl)
 obtain ⟨late,rfl⟩:=okWide_bool Tryz.underlying4 (hval 1 4 v1 rfl rfl)
 have k0:=h0
 have k1:=h1
 have lt0:∀ x∈p0,x.block<W.heap.size:=by obtain ⟨m,hm⟩:=k0;exact DataW.trod_lt m _ _ _ hm
 have lt1:∀ x∈p1,x.block<W.heap.size:=by obtain ⟨m,hm⟩:=k1;exact DataW.trod_lt m _ _ _ hm
 obtain ⟨z0,w0⟩:∃ zs,yfq .i64 W a0 len0 cap0 zs:=by
  obtain ⟨fuel,hf⟩:=h0
  rcases open_ints Tryz.underlying25 Tryz.underlying3 (by kernel_rfl) hf with ⟨hcs,_⟩|⟨x,l,c,zs,hcs,_,hl,hm,hz,_,hcell,hwz⟩
  ·simp [Value.cells] at hcs
   obtain ⟨rfl,rfl,rfl⟩:=hcs
   exact ⟨[],.inl ⟨rfl,rfl,rfl,rfl⟩⟩
  ·simp [Value.cells] at hcs
   obtain ⟨rfl,rfl,rfl⟩:=hcs
   exact ⟨zs,.inr ⟨_,rfl,hl,hm,by simpa using hz,hcell,hwz⟩⟩
 obtain ⟨i0,l0,c0⟩:=zj5 w0
 clear hA0 hval0
 refine (K.yd7 _ (z0.take len0) late W i0 l0 c0).mono fun e W' ⟨he,bel⟩=>?_
 subst he
 exact ⟨_,rfl,_,_,_,[],_,[],hW',trodAll_mk1 (shut_bool Tryz.underlying4 _),(trodAll_cons_mk (Below.trod Tryz.laidOut (by kernel_rfl) (of_decide_eq_true (by kernel_rfl)) k0 bel lt0) (trodAll_cons_mk (Below.trod Tryz.laidOut (by kernel_rfl) (of_decide_eq_true (by kernel_rfl)) k1 bel lt1) trodAll_mk0)),rfl,bel.frame _,fun h=>by cases h⟩
theorem jf1:(Rows.pathsRow.wf (OpenSpec.ofChange (OpenSpec.ofChange Rows.pathsSpec).bare))=true:=by kernel_rfl
theorem jf2:(laidOutB Tryz.prog)=true:=by kernel_rfl
theorem jf3:(mapsRowed Tryz.prog)=true:=by kernel_rfl
theorem jf4:(Tryz.f10.params.all (Tryz.prog.readableRec ·))=true:=by kernel_rfl
theorem jf5:(namedTie Tryz.prog Rows.pathsRow.named (OpenSpec.ofChange Rows.pathsSpec).bare.vars)=true:=by kernel_rfl
theorem jf6:((Rows.pathsRow.stops == []))=true:=by kernel_rfl
theorem jf7:((Tryz.prog.stops == []))=true:=by kernel_rfl
theorem jf8:((Rows.pathsRow.knobs == []))=true:=by kernel_rfl
theorem jf9:((Tryz.prog.stopKnobs == []))=true:=by kernel_rfl
theorem ykl:((Rows.pathsRow.inPlace == Tryz.prog.inPlace 10))=true:=by kernel_rfl
theorem ykm:((Rows.pathsRow.unfollowed == Tryz.prog.unfollowed 10))=true:=by kernel_rfl
theorem ykn:((Rows.pathsRow.recurses == Tryz.prog.recurses 10))=true:=by kernel_rfl
theorem yko:((Rows.pathsRow.named == Tryz.prog.varsNamed 10))=true:=by kernel_rfl
theorem ykp:((Rows.pathsRow.maps == (Tryz.f10.params.toList ++ (OpenSpec.ofChange Rows.pathsSpec).bare.plain.varTypes Tryz.prog).any (Tryz.prog.mapsRec ·)))=true:=by kernel_rfl
theorem ykq:((Rows.pathsRow.ifaces == (Tryz.f10.params.toList ++ (OpenSpec.ofChange Rows.pathsSpec).bare.plain.varTypes Tryz.prog).any (Tryz.prog.ifacesRec ·)))=true:=by kernel_rfl
theorem ykr:((Rows.pathsRow.mapsOut == Tryz.prog.mapsAmong Tryz.f10.resultTypes.toList))=true:=by kernel_rfl
theorem yks:((Rows.pathsRow.loops == (Tryz.f10.params.toList ++ (OpenSpec.ofChange Rows.pathsSpec).bare.plain.varTypes Tryz.prog).any (Tryz.prog.loopsFrom ·)))=true:=by kernel_rfl
theorem ykt:((Rows.pathsRow.wideKeys == (Tryz.f10.params.toList ++ (OpenSpec.ofChange Rows.pathsSpec).bare.plain.varTypes Tryz.prog ++ Tryz.f10.resultTypes.toList).any (Tryz.prog.wideKeysFrom ·)))=true:=by kernel_rfl
theorem yku:((OpenSpec.ofChange Rows.pathsSpec).bare.vars.all (Tryz.prog.varReadable ·))=true:=by kernel_rfl
theorem ykv:(Tryz.f10.resultTypes.all (fun t=>Tryz.prog.readableRec t && decide (t<Tryz.prog.types.size)))=true:=by kernel_rfl
theorem ykw:((Rows.pathsRow.ifacesOut == Tryz.f10.resultTypes.toList.any (Tryz.prog.ifacesRec ·)))=true:=by kernel_rfl
theorem ykx:((Rows.pathsRow.loopsOut == Tryz.f10.resultTypes.toList.any (Tryz.prog.loopsFrom ·)))=true:=by kernel_rfl
theorem yky:((Rows.pathsRow.plainKeys == Tryz.prog.plainKeys))=true:=by kernel_rfl
theorem ykz:(Rows.pathsRow.shortTexts.isNone)=true:=by kernel_rfl
theorem yk0:(Tryz.prog.stopsHeard)=true:=by kernel_rfl
theorem yk1:(Tryz.prog.mayEnter)=true:=by kernel_rfl
theorem yk2:((Rows.pathsRow.lifted == Tryz.prog.liftsFinal))=true:=by kernel_rfl
theorem yk3:((Tryz.prog.make == some Rows.pathsRow.make))=true:=by kernel_rfl
theorem yk4:((Rows.pathsRow.kinds == (if Rows.pathsRow.domain.isEmpty then [] else Tryz.f10.params.toList.map fun t=>match Tryz.prog.underlying t with|some (.int k)=>some k|_=>none)))=true:=by kernel_rfl
theorem yk5:((Rows.pathsRow.pinned == Rows.pathsRow.pinnedBy))=true:=by kernel_rfl
theorem yk6:((Rows.pathsRow.veiled == (Tryz.f10.params.toList ++ (OpenSpec.ofChange Rows.pathsSpec).bare.plain.varTypes Tryz.prog ++ Tryz.f10.resultTypes.toList).any (Tryz.prog.veiledRec ·)))=true:=by kernel_rfl
theorem yk7:(Rows.pathsRow.veiledFits Tryz.prog Tryz.f10.params.toList (Tryz.f10.params.toList ++ (OpenSpec.ofChange Rows.pathsSpec).bare.plain.varTypes Tryz.prog ++ Tryz.f10.resultTypes.toList))=true:=by kernel_rfl
theorem zcb {a b:Bool} (ha:a=true) (hb:b=true):(a && b)=true:=by rw [ha,hb];rfl
theorem yc6:joinedFacts Tryz.pinned.checked.prog 10 Tryz.f10 (OpenSpec.ofChange Rows.pathsSpec).bare Rows.pathsRow=true:=(zcb (zcb (zcb (zcb (zcb (zcb (zcb (zcb (zcb (zcb (zcb (zcb (zcb (zcb (zcb (zcb (zcb (zcb (zcb (zcb (zcb (zcb (zcb (zcb (zcb (zcb (zcb (zcb (zcb (zcb (zcb jf1 jf2) jf3) jf4) jf5) jf6) jf7) jf8) jf9) ykl) ykm) ykn) yko) ykp) ykq) ykr) yks) ykt) yku) ykv) ykw) ykx) yky) ykz) yk0) yk1) yk2) yk3) yk4) yk5) yk6) yk7)
theorem zlb:Rows.PathsSaid:=
 OpenClaim.holds_of_cond 10 Tryz.f10 rfl rfl rfl rfl rfl rfl rfl ⟨rfl,rfl,rfl,rfl,rfl⟩ rfl rfl rfl rfl rfl (by kernel_rfl) Tryz.func10 yc6
  (of_decide_eq_true (by kernel_rfl)) (by unfold Func.isWrapper;first|(rw [if_pos (by decide +kernel)];kernel_rfl)|(rw [if_neg (by decide +kernel)];exact ⟨rfl,rfl⟩))
  (fun os started H enc _ F=>by rw [OpenClaim.pre_eq_preRow];exact zhf os started H enc F)
theorem plain (f:FuncId) (fn:Func) (hf:Tryz.pinned.checked.prog.funcNamed Rows.pathsRow.func = some f) (hfn:Tryz.pinned.checked.prog.funcs[f]? = some fn) :
  true=Tryz.pinned.checked.prog.looks []∧∀ (j:Nat) t,fn.params[j]? = some t→Tryz.pinned.checked.prog.wantsStandIn t=false:=by
 obtain rfl:f=10:=Option.some.inj ((show Tryz.prog.funcNamed Rows.pathsRow.func = some 10 by kernel_rfl).symm.trans hf) |>.symm
 obtain rfl:fn=Tryz.f10:=(Option.some.inj (Tryz.func10.symm.trans hfn)).symm
 refine ⟨by kernel_rfl,fun j t ht=>?_⟩
 rw [Tryz.params10] at ht
 have hm:=Array.mem_of_getElem? ht
 obtain rfl|rfl:t=25∨t=4:=by simpa using hm
 ·exact (show Tryz.prog.wantsStandIn 25=false by kernel_rfl)
 ·exact (show Tryz.prog.wantsStandIn 4=false by kernel_rfl)
theorem zys:Rows.PathsCardSaid:=
 Claim7.holds_tied_plain_at .later [] _ _ _ _ zlb (fun _ h=>by cases h) (by kernel_rfl) (fun _ h=>by cases h) paths_row_tie rfl ⟨rfl,rfl⟩ (by kernel_rfl) rfl plain (by kernel_rfl)
end pathsDone
end Go.Proofs.YtoifcnidhfnapaaGreatDoor

namespace Go.Proofs.YtoifcnidhfnapaaGreatDoor
/-- The statement. -/
theorem paths_holds : Rows.PathsCardSaid := pathsDone.zys
end Go.Proofs.YtoifcnidhfnapaaGreatDoor
