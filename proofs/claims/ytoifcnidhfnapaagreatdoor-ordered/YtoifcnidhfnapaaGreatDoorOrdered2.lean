import Derived.Test.YtoifcnidhfnapaaGreatDoorOrdered1
import Derived.Test.YtoifcnidhfnapaaGreatDoorCards
import Derived.Test.YtoifcnidhfnapaaGreatDoorTie
import Derived.WalkKit
import Derived.ProofKit
import Derived.OpenShut
import Derived.Deep.DeepHandedRow
import Derived.Deep.DeepWitnessRowRef
import Derived.Lib.LaidTab
import Derived.LaidHandle
import Derived.ChangeOld
import Derived.Below
import Derived.Deep.CutRange
set_option linter.unusedVariables false
set_option linter.unusedSimpArgs false
set_option maxRecDepth 100000
set_option maxHeartbeats 16000000
namespace Go.Proofs.YtoifcnidhfnapaaGreatDoor
open Go.RowKit Go.Maps
open Go.ChangeShapes Go.WideShapes Go.ChangeAt
namespace orderedDone
theorem zhf (os:Os) (started:os.Started) (H:Type) (enc:TypeId×Value→H) (F:Stop.Interp) :
  ReturnsInHanded {} Tryz.checked os 12 .any ((OpenSpec.ofChange Rows.orderedSpec).preRow enc Tryz.prog Tryz.f12 Rows.orderedRow.domain false Rows.orderedRow.laid) (((OpenSpec.ofChange Rows.orderedSpec).at F).post enc Tryz.prog Tryz.f12 false true false false):=by
 refine returnsInHanded_of_row (C:=Tryz.checked) (s:=OpenSpec.ofChange Rows.orderedSpec) Tryz.own started (by kernel_rfl) Tryz.func12
  (witness_row_atRef (enc:=enc) (C:=Tryz.checked) false { World.holding Tryz.prog os ⟨#[],#[],[]⟩ with heap:=zsa (World.holding Tryz.prog os ⟨#[],#[],[]⟩).heap } #[.slice none 0 0,.int .i64 0,.int .i64 0,.int .i64 0] rfl (by kernel_rfl) (by kernel_rfl) (by kernel_rfl)
   (OpenSpec.preRow_of_cond 8 (x:=([.nil,.lit (.int .i64 0),.lit (.int .i64 0),.lit (.int .i64 0)],[],[])) (by kernel_rfl) (by kernel_rfl) (fun k hk=>by cases hk) (by kernel_rfl) (laidMetH_of_parts (laidMet_of_run' 8 (by kernel_rfl) (by kernel_rfl)) (by kernel_rfl)))) ?_
 intro W base args ds gs before hval0 hW _ hcond _ _ _ _
 have hval:∀ (j:Nat) t v,Tryz.f12.params[j]? = some t→args[j]? = some v→Value.okWide Tryz.prog W .any base t v:=hval0
 have hW':=hW
 obtain ⟨p,q,hA0,hV,rfl,hfz,hnd⟩:=hW
 have hA:DataW.TrodAll enc Tryz.prog W 0 (fun _=>true) true Tryz.f12.params.toList args.toList ds p:=hA0
 rw [Tryz.params12] at hA hval
 obtain ⟨v0,vs0,d0,ds0,p0,q0,hargs,rfl,rfl,h0,r0⟩:=trodAll_cons hA
 obtain ⟨v1,vs1,d1,ds1,p1,q1,hargs1,rfl,rfl,h1,r1⟩:=trodAll_cons r0
 obtain ⟨v2,vs2,d2,ds2,p2,q2,hargs2,rfl,rfl,h2,r2⟩:=trodAll_cons r1
 obtain ⟨v3,vs3,d3,ds3,p3,q3,hargs3,rfl,rfl,h3,r3⟩:=trodAll_cons r2
 obtain ⟨rfl,rfl,rfl⟩:=trodAll_nil r3
 obtain rfl:args=#[v0,v1,v2,v3]:=by cases args;simp_all
 obtain ⟨rfl,rfl⟩:=trodVars_none hV
 obtain ⟨a0,len0,cap0,rfl⟩:=okWide_slice Tryz.underlying25 (hval 0 25 v0 rfl rfl)
 obtain ⟨n1,rfl,_,_,b1'⟩:=open_int Tryz.underlying3 (hval 1 3 v1 rfl rfl) h1
 obtain ⟨n2,rfl,_,_,b2'⟩:=open_int Tryz.underlying3 (hval 2 3 v2 rfl rfl) h2
 have b1:=bounds_i64 b1'
 have b2:=bounds_i64 b2'
 obtain ⟨n3,rfl,_,_,b3'⟩:=open_int Tryz.underlying3 (hval 3 3 v3 rfl rfl) h3
 have b3:=bounds_i64 b3'
 have k0:=h0
 have k1:=h1
 have k2:=h2
 have k3:=h3
 have lt0:∀ x∈p0,x.block<W.heap.size:=by obtain ⟨m,hm⟩:=k0;exact DataW.trod_lt m _ _ _ hm
 have lt1:∀ x∈p1,x.block<W.heap.size:=by obtain ⟨m,hm⟩:=k1;exact DataW.trod_lt m _ _ _ hm
 have lt2:∀ x∈p2,x.block<W.heap.size:=by obtain ⟨m,hm⟩:=k2;exact DataW.trod_lt m _ _ _ hm
 have lt3:∀ x∈p3,x.block<W.heap.size:=by obtain ⟨m,hm⟩:=k3;exact DataW.trod_lt m _ _ _ hm
 obtain ⟨z0,w0⟩:∃ zs,yfq .i64 W a0 len0 cap0 zs:=by
  obtain ⟨fuel,hf⟩:=h0
  rcases open_ints Tryz.underlying25 Tryz.underlying3 (by kernel_rfl) hf with ⟨hcs,_⟩|⟨x,l,c,zs,hcs,_,hl,hm,hz,_,hcell,hwz⟩
  ·simp [Value.cells] at hcs
   obtain ⟨rfl,rfl,rfl⟩:=hcs
   exact ⟨[],.inl ⟨rfl,rfl,rfl,rfl⟩⟩
  ·simp [Value.cells] at hcs
   obtain ⟨rfl,rfl,rfl⟩:=hcs
   exact ⟨zs,.inr ⟨_,rfl,hl,hm,by simpa using hz,hcell,hwz⟩⟩
 obtain ⟨i0,l0,c0⟩:=zj5 w0
 clear hA0 hval0
 refine (K.zxp _ (z0.take len0) n1 n2 n3 W i0 l0 c0 b1 b2 b3).mono fun e W' ⟨he,bel⟩=>?_
 subst he
 exact ⟨_,rfl,_,_,_,[],_,[],hW',trodAll_mk1 (shut_bool Tryz.underlying4 _),(trodAll_cons_mk (Below.trod Tryz.laidOut (by kernel_rfl) (of_decide_eq_true (by kernel_rfl)) k0 bel lt0) (trodAll_cons_mk (Below.trod Tryz.laidOut (by kernel_rfl) (of_decide_eq_true (by kernel_rfl)) k1 bel lt1) (trodAll_cons_mk (Below.trod Tryz.laidOut (by kernel_rfl) (of_decide_eq_true (by kernel_rfl)) k2 bel lt2) (trodAll_cons_mk (Below.trod Tryz.laidOut (by kernel_rfl) (of_decide_eq_true (by kernel_rfl)) k3 bel lt3) trodAll_mk0)))),rfl,bel.frame _,fun h=>by cases h⟩
theorem jf1:(Rows.orderedRow.wf (OpenSpec.ofChange (OpenSpec.ofChange Rows.orderedSpec).bare))=true:=by kernel_rfl
theorem jf2:(laidOutB Tryz.prog)=true:=by kernel_rfl
theorem jf3:(mapsRowed Tryz.prog)=true:=by kernel_rfl
theorem jf4:(Tryz.f12.params.all (Tryz.prog.readableRec ·))=true:=by kernel_rfl
theorem jf5:(namedTie Tryz.prog Rows.orderedRow.named (OpenSpec.ofChange Rows.orderedSpec).bare.vars)=true:=by kernel_rfl
theorem jf6:((Rows.orderedRow.stops == []))=true:=by kernel_rfl
theorem jf7:((Tryz.prog.stops == []))=true:=by kernel_rfl
theorem jf8:((Rows.orderedRow.knobs == []))=true:=by kernel_rfl
theorem jf9:((Tryz.prog.stopKnobs == []))=true:=by kernel_rfl
theorem ykl:((Rows.orderedRow.inPlace == Tryz.prog.inPlace 12))=true:=by kernel_rfl
theorem ykm:((Rows.orderedRow.unfollowed == Tryz.prog.unfollowed 12))=true:=by kernel_rfl
theorem ykn:((Rows.orderedRow.recurses == Tryz.prog.recurses 12))=true:=by kernel_rfl
theorem yko:((Rows.orderedRow.named == Tryz.prog.varsNamed 12))=true:=by kernel_rfl
theorem ykp:((Rows.orderedRow.maps == (Tryz.f12.params.toList ++ (OpenSpec.ofChange Rows.orderedSpec).bare.plain.varTypes Tryz.prog).any (Tryz.prog.mapsRec ·)))=true:=by kernel_rfl
theorem ykq:((Rows.orderedRow.ifaces == (Tryz.f12.params.toList ++ (OpenSpec.ofChange Rows.orderedSpec).bare.plain.varTypes Tryz.prog).any (Tryz.prog.ifacesRec ·)))=true:=by kernel_rfl
theorem ykr:((Rows.orderedRow.mapsOut == Tryz.prog.mapsAmong Tryz.f12.resultTypes.toList))=true:=by kernel_rfl
theorem yks:((Rows.orderedRow.loops == (Tryz.f12.params.toList ++ (OpenSpec.ofChange Rows.orderedSpec).bare.plain.varTypes Tryz.prog).any (Tryz.prog.loopsFrom ·)))=true:=by kernel_rfl
theorem ykt:((Rows.orderedRow.wideKeys == (Tryz.f12.params.toList ++ (OpenSpec.ofChange Rows.orderedSpec).bare.plain.varTypes Tryz.prog ++ Tryz.f12.resultTypes.toList).any (Tryz.prog.wideKeysFrom ·)))=true:=by kernel_rfl
theorem yku:((OpenSpec.ofChange Rows.orderedSpec).bare.vars.all (Tryz.prog.varReadable ·))=true:=by kernel_rfl
theorem ykv:(Tryz.f12.resultTypes.all (fun t=>Tryz.prog.readableRec t && decide (t<Tryz.prog.types.size)))=true:=by kernel_rfl
theorem ykw:((Rows.orderedRow.ifacesOut == Tryz.f12.resultTypes.toList.any (Tryz.prog.ifacesRec ·)))=true:=by kernel_rfl
theorem ykx:((Rows.orderedRow.loopsOut == Tryz.f12.resultTypes.toList.any (Tryz.prog.loopsFrom ·)))=true:=by kernel_rfl
theorem yky:((Rows.orderedRow.plainKeys == Tryz.prog.plainKeys))=true:=by kernel_rfl
theorem ykz:(Rows.orderedRow.shortTexts.isNone)=true:=by kernel_rfl
theorem yk0:(Tryz.prog.stopsHeard)=true:=by kernel_rfl
theorem yk1:(Tryz.prog.mayEnter)=true:=by kernel_rfl
theorem yk2:((Rows.orderedRow.lifted == Tryz.prog.liftsFinal))=true:=by kernel_rfl
theorem yk3:((Tryz.prog.make == some Rows.orderedRow.make))=true:=by kernel_rfl
theorem yk4:((Rows.orderedRow.kinds == (if Rows.orderedRow.domain.isEmpty then [] else Tryz.f12.params.toList.map fun t=>match Tryz.prog.underlying t with|some (.int k)=>some k|_=>none)))=true:=by kernel_rfl
theorem yk5:((Rows.orderedRow.pinned == Rows.orderedRow.pinnedBy))=true:=by kernel_rfl
theorem yk6:((Rows.orderedRow.veiled == (Tryz.f12.params.toList ++ (OpenSpec.ofChange Rows.orderedSpec).bare.plain.varTypes Tryz.prog ++ Tryz.f12.resultTypes.toList).any (Tryz.prog.veiledRec ·)))=true:=by kernel_rfl
theorem yk7:(Rows.orderedRow.veiledFits Tryz.prog Tryz.f12.params.toList (Tryz.f12.params.toList ++ (OpenSpec.ofChange Rows.orderedSpec).bare.plain.varTypes Tryz.prog ++ Tryz.f12.resultTypes.toList))=true:=by kernel_rfl
theorem zcb {a b:Bool} (ha:a=true) (hb:b=true):(a && b)=true:=by rw [ha,hb];rfl
theorem yc6:joinedFacts Tryz.pinned.checked.prog 12 Tryz.f12 (OpenSpec.ofChange Rows.orderedSpec).bare Rows.orderedRow=true:=(zcb (zcb (zcb (zcb (zcb (zcb (zcb (zcb (zcb (zcb (zcb (zcb (zcb (zcb (zcb (zcb (zcb (zcb (zcb (zcb (zcb (zcb (zcb (zcb (zcb (zcb (zcb (zcb (zcb (zcb (zcb jf1 jf2) jf3) jf4) jf5) jf6) jf7) jf8) jf9) ykl) ykm) ykn) yko) ykp) ykq) ykr) yks) ykt) yku) ykv) ykw) ykx) yky) ykz) yk0) yk1) yk2) yk3) yk4) yk5) yk6) yk7)
theorem zlb:Rows.OrderedSaid:=
 OpenClaim.holds_of_cond 12 Tryz.f12 rfl rfl rfl rfl rfl rfl rfl ⟨rfl,rfl,rfl,rfl,rfl⟩ rfl rfl rfl rfl rfl (by kernel_rfl) Tryz.func12 yc6
  (of_decide_eq_true (by kernel_rfl)) (by unfold Func.isWrapper;first|(rw [if_pos (by decide +kernel)];kernel_rfl)|(rw [if_neg (by decide +kernel)];exact ⟨rfl,rfl⟩))
  (fun os started H enc _ F=>by rw [OpenClaim.pre_eq_preRow];exact zhf os started H enc F)
theorem plain (f:FuncId) (fn:Func) (hf:Tryz.pinned.checked.prog.funcNamed Rows.orderedRow.func = some f) (hfn:Tryz.pinned.checked.prog.funcs[f]? = some fn) :
  true=Tryz.pinned.checked.prog.looks []∧∀ (j:Nat) t,fn.params[j]? = some t→Tryz.pinned.checked.prog.wantsStandIn t=false:=by
 obtain rfl:f=12:=Option.some.inj ((show Tryz.prog.funcNamed Rows.orderedRow.func = some 12 by kernel_rfl).symm.trans hf) |>.symm
 obtain rfl:fn=Tryz.f12:=(Option.some.inj (Tryz.func12.symm.trans hfn)).symm
 refine ⟨by kernel_rfl,fun j t ht=>?_⟩
 rw [Tryz.params12] at ht
 have hm:=Array.mem_of_getElem? ht
 obtain rfl|rfl:t=25∨t=3:=by simpa using hm
 ·exact (show Tryz.prog.wantsStandIn 25=false by kernel_rfl)
 ·exact (show Tryz.prog.wantsStandIn 3=false by kernel_rfl)
theorem zys:Rows.OrderedCardSaid:=
 Claim7.holds_tied_plain_at .later [] _ _ _ _ zlb (fun _ h=>by cases h) (by kernel_rfl) (fun _ h=>by cases h) ordered_row_tie rfl ⟨rfl,rfl⟩ (by kernel_rfl) rfl plain (by kernel_rfl)
end orderedDone
end Go.Proofs.YtoifcnidhfnapaaGreatDoor

namespace Go.Proofs.YtoifcnidhfnapaaGreatDoor
/-- The statement. -/
theorem ordered_holds : Rows.OrderedCardSaid := orderedDone.zys
end Go.Proofs.YtoifcnidhfnapaaGreatDoor
