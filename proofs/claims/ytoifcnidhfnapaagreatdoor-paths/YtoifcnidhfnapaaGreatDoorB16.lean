import Derived.Test.YtoifcnidhfnapaaGreatDoorB15
import Derived.OrdersIn
import Derived.TacticsIn
import Derived.Below
import Derived.Laws.World
set_option linter.unusedVariables false
set_option linter.unusedSimpArgs false
set_option maxRecDepth 100000
set_option maxHeartbeats 16000000
namespace Go.Proofs.YtoifcnidhfnapaaGreatDoor
open Go Go.RowKit
def zpo (w w':World):Prop:=Below w.heap.size w w'
theorem zpo.refl (w:World):zpo w w:=Below.refl _ _
theorem zpo.trans {a b c:World} (h:zpo a b) (k:zpo b c):zpo a c:=Below.trans h (Below.mono k (Below.size h))
theorem zpo.cell {w w':World} (h:zpo w w') {p:Addr} {v:Value} (hc:w.cell? p=some v):w'.cell? p=some v:=(Below.cell h (World.block_lt_of_cell? w p hc)).trans hc
def zdx {α:Type} (P:Program) (s:Sem α):Prop:=∀ w x w',s.run P w=.ok x w'→zpo w w'
theorem zdx.pure {α:Type} {P:Program} (a:α):zdx P (pure a:Sem α):=fun w x w' h=>by
 simp only [Sem.run_pure] at h
 cases h
 exact zpo.refl _
theorem zdx.bind {α β:Type} {P:Program} {s:Sem α} {f:α→Sem β} (h:zdx P s) (hf:∀ a,zdx P (f a)):zdx P (s >>= f):=fun w x w' hr=>by
 rw [Sem.run_bind] at hr
 cases e:s.run P w with
 | ok a w1 =>
  rw [e] at hr
  exact (h w a w1 e).trans (hf a w1 x w' hr)
 | halt c w1 =>
  rw [e] at hr
  cases hr
theorem zdx.program {P:Program}:zdx P program:=fun w x w' h=>by
 cases h
 exact zpo.refl _
theorem zdx.load {P:Program} (a:Addr) (m:Mode):zdx P (load a m):=fun w x w' h=>by
 simp only [Go.load,Sem.run] at h
 split at h
 ·cases h;exact zpo.refl _
 ·split at h
  ·cases h;exact zpo.refl _
  ·cases h
theorem zdx.newObj {P:Program} (o:Obj):zdx P (newObj o):=fun w x w' h=>by
 cases h
 exact (Below.refl _ w).alloc (Nat.le_refl _) o
theorem zdx.stuck {α:Type} {P:Program} (s:String):zdx P (stuck s:Sem α):=fun w x w' h=>by cases h
theorem zdx.unsupported {α:Type} {P:Program} (s:_):zdx P (unsupported s:Sem α):=fun w x w' h=>by cases h
theorem zdx.typeInfo {P:Program} (t:TypeId):zdx P (typeInfo t):=by
 unfold Go.typeInfo
 refine .bind .program fun p=>?_
 split
 ·exact .pure _
 ·exact .stuck _
theorem zdx.underlying {P:Program} (t:TypeId):zdx P (underlying t):=by
 unfold Go.underlying
 refine .bind .program fun p=>?_
 split
 ·exact .pure _
 ·exact .stuck _
theorem zdx.isAgg {P:Program} (t:TypeId):zdx P (isAgg t):=by
 unfold Go.isAgg
 refine .bind (.underlying t) fun d=>?_
 split
 ·exact .pure _
 ·exact .pure _
 ·exact .pure _
theorem zdx.loadCellsFrom {P:Program} (a:Addr):∀ (n i:Nat) (acc:Array Value),zdx P (loadCellsFrom a i n acc)
 | 0,i,acc=>.pure _
 | n+1,i,acc=>by
  unfold Go.loadCellsFrom
  exact .bind (.load _ _) fun v=>zdx.loadCellsFrom a n (i+1) _
theorem zdx.loadAt {P:Program} (t:TypeId) (x:Value):zdx P (Instr.loadAt t x):=by
 unfold Instr.loadAt
 refine .bind ?_ fun a=>?_
 ·unfold Instr.sureAddr
  split
  ·exact .pure _
  ·exact .stuck _
 ·unfold loadVar
  refine .bind (.isAgg t) fun b=>?_
  split
  ·refine .bind ?_ fun n=>.bind ?_ fun cs=>.pure _
   ·unfold Go.sizeOf
    exact .bind (.typeInfo t) fun _=>.pure _
   ·exact zdx.loadCellsFrom a _ 0 #[]
  ·exact .load _ _
theorem zdx.alloc {P:Program} (t:TypeId):zdx P (Instr.alloc t true (.tuple #[])):=by
 unfold Instr.alloc
 refine .bind ?_ fun z=>?_
 ·unfold zeroValue
  refine .bind (.typeInfo t) fun i=>?_
  split
  ·exact .pure _
  ·exact .unsupported _
 ·refine .bind ?_ fun a=>.pure _
  unfold newVar newRow
  exact .bind (.newObj _) fun _=>.pure _
def zv8 (P:Program) (o:Oper):Prop:=∀ ρ w x w',(execOp ρ o).run P w=.ok x w'→(∃ u,x=.value u)∧zpo w w'
theorem zzp {P:Program} {s:Sem Value} {w:World} {x:Next} {w':World} (hs:zdx P s) (h:(do pure (Next.value (← s)):Sem Next).run P w=.ok x w'):(∃ u,x=.value u)∧zpo w w':=by
 rw [Sem.run_bind] at h
 cases e:s.run P w with
 | ok a w1=>rw [e] at h;cases h;exact ⟨⟨_,rfl⟩,hs _ _ _ e⟩
 | halt c w1=>rw [e] at h;cases h
def yjl:Op→Bool
 | .move _ | .assign _ | .load _ _ | .alloc _=>true
 | _=>false
theorem yjm {P:Program} {o:Oper} (h:yjl o.op=true):zv8 P o:=by
 intro ρ w x w' hr
 unfold execOp at hr
 cases ho:o.op with
 | move y=>rw [ho] at hr;cases hr;exact ⟨⟨_,rfl⟩,zpo.refl _⟩
 | assign y=>rw [ho] at hr;cases hr;exact ⟨⟨_,rfl⟩,zpo.refl _⟩
 | load t a=>rw [ho] at hr;exact zzp (.loadAt _ _) hr
 | alloc t=>rw [ho] at hr;exact zzp (.alloc _) hr
 | _=>rw [ho] at h;cases h
def zkb (Q:Exit→Act→World→Prop):Exit→Act→World→Prop:=fun e a w=>match e with | .normal=>Q .normal a w|_=>False
theorem zdu {F:Fence} {n:Nat} {P:Program} {c:Code} {Q:Exit→Act→World→Prop} {a:Act} {w:World} (h:c.wpIn F n P (zkb Q) a w):c.wpIn F n P Q a w:=by
 refine Code.wpIn_mono (fun e a w h=>?_) h
 cases e <;> first|exact h|exact h.elim
section
variable {F:Fence} {n:Nat} {P:Program} {md:Region.Mode} {ops:Array Oper} {Q:Exit→Act→World→Prop}
def zny (P:Program) (ops:Array Oper) (o:Oper) (v:Value) (a:Act) (w:World):Prop:=
 Region.wanted o (yielded ops a.tmps)=true∧(∀ w',zpo w w'→(execOp a.eval o).run P w'=.ok (.value v) w')∧∀ w',o.about P w' a.eval=none
theorem zny.now {i:Nat} {o:Oper} {v:Value} {a:Act} {w:World} (hro:F.round=none) (hi:ops[i]? = some o) (hy:zny P ops o v a w) {K:Act→World→Prop} (h:K (a.put o.dst v) w):wpOpIn F n P ops Q i K a w:=by
 unfold wpOpIn
 simp only [hi]
 simp only [hy.1,if_true,Oper.wpIn,hro,Oper.semAt_none,hy.2.1 w (zpo.refl w),Oper.uponIn]
 exact ⟨(fun f hf=>by rw [hy.2.2 w] at hf;cases hf),h⟩
theorem zyk {j:Nat} {oi oj:Oper} {v:Value} (hro:F.round=none) (hj:ops[j]? = some oj) (hap:oi.apart ops oj=true) (hsi:∀ cs b,oi.op≠.select cs b) (hsj:∀ cs b,oj.op≠.select cs b) (htame:zv8 P oj)
  (hQ:∀ c a w,Q (.panic c) (a.put oi.dst v) w→Q (.panic c) a w) {K:Act→World→Prop} {a:Act} {w:World} (hy:zny P ops oi v a w) (h:wpOpIn F n P ops Q j K (a.put oi.dst v) w) :
  wpOpIn F n P ops Q j (fun a' w'=>zny P ops oi v a' w'∧K (a'.put oi.dst v) w') a w:=by
 obtain ⟨h1,h2,h3⟩:=Oper.apart_spec hap
 have keep:∀ u w',zpo w w'→zny P ops oi v (a.put oj.dst u) w':=fun u w' hw =>
  ⟨by rw [wanted_put oi a oj.dst u h3];exact hy.1,fun w'' hw''=>by rw [execOp_put oi hsi a oj.dst u h3];exact hy.2.1 w'' (hw.trans hw''),fun w''=>by rw [about_put oi w'' a oj.dst u h3];exact hy.2.2 w''⟩
 unfold wpOpIn at *
 simp only [hj] at *
 rw [wanted_put oj a oi.dst v h1,about_put oj w a oi.dst v h1] at h
 split
 ·rename_i hw
  simp only [hw,if_true] at h
  unfold Oper.wpIn at *
  rw [about_put oj w a oi.dst v h1] at h
  refine ⟨h.1,?_⟩
  have h:=h.2
  rw [hro,Oper.semAt_none,execOp_put oj hsj a oi.dst v h1] at h
  rw [hro,Oper.semAt_none]
  cases e:(execOp a.eval oj).run P w with
  | ok x w' =>
   rw [e] at h
   obtain ⟨⟨u,rfl⟩,hx⟩:=htame _ _ _ _ e
   simp only [Oper.uponIn] at h ⊢
   exact ⟨keep u w' hx,by rw [← Act.put_comm a v u h2];exact h⟩
  | halt x w' =>
   rw [e] at h
   cases x <;> simp only [Oper.uponIn] at h ⊢
   case panic u=>exact hQ _ _ _ h
 ·rename_i hw
  simp only [hw] at h
  exact ⟨h.1,keep _ w (zpo.refl w),by rw [← Act.put_comm a v undef h2];exact h.2⟩
def yj9 (md:Region.Mode) (ops:Array Oper) (listed:Array Bool) (i:Nat) (t:Nat→Bool):Prop:=
 ∀ (j:Nat) (oj:Oper),ops[j]? = some oj→j≠i→listed.getD j true=false→t j=false→∃ e∈oj.after,Region.binds md e=true∧(e.on=i∨(t e.on=false∧listed.getD e.on true=false))
theorem zqb {i:Nat} {oi:Oper} {v:Value} (t:Nat→Bool) (hro:F.round=none) (hi:ops[i]? = some oi) (hti:t i=true) (hsel:∀ (j:Nat) (o:Oper) cs b,ops[j]? = some o→o.op≠.select cs b)
  (hQ:∀ c a w,Q (.panic c) (a.put oi.dst v) w→Q (.panic c) a w) :
  ∀ (fuel:Nat) (listed:Array Bool) (a:Act) (w:World),
   (∀ (j:Nat) (oj:Oper),ops[j]? = some oj→j≠i→listed.getD j true=false→t j=true→yjl oj.op=true∧oi.apart ops oj=true)→yj9 md ops listed i t →
   i∈Region.ready md ops listed→zny P ops oi v a w →
   wpAnyIn F n P md ops Q fuel (listed.setIfInBounds i true) (a.put oi.dst v) w→wpAnyIn F n P md ops Q (fuel+1) listed a w:=by
 intro fuel
 induction fuel with
 | zero =>
  intro listed a w _ _ hr hy H
  refine ⟨fun h=>(by rw [h] at hr;cases hr),fun j hj=>?_⟩
  by_cases hji:j=i
  ·subst hji;exact hy.now hro hi H
  ·have:=ready_mono hj hji
   rw [H.1] at this
   cases this
 | succ fuel ih =>
  intro listed a w h1 h2 hr hy H
  refine ⟨fun h=>(by rw [h] at hr;cases hr),fun j hj=>?_⟩
  by_cases hji:j=i
  ·subst hji;exact hy.now hro hi H
  ·have hH:=H.2 j (ready_mono hj hji)
   obtain ⟨hjun,oj,hoj,hall⟩:=mem_ready.1 hj
   have hiun:=(mem_ready.1 hr).1
   have hno:∀ k,listed.getD k true=false→listed.getD k false=true→False:=fun k ha hb=>by
    rcases Nat.lt_or_ge k listed.size with h'|h'
    ·simp [Array.getD,h'] at ha hb;rw [ha] at hb;cases hb
    ·simp [Array.getD,Nat.not_lt.2 h'] at ha
   have htj:t j=true:=by
    cases htj:t j with
    | true=>rfl
    | false =>
     obtain ⟨e,he,hb,hon⟩:=h2 j oj hoj hji hjun htj
     have hl:=hall e he hb
     rcases hon with hon|⟨_,hon⟩
     ·rw [hon] at hl;exact (hno i hiun hl).elim
     ·exact (hno _ hon hl).elim
   obtain ⟨hta,hap⟩:=h1 j oj hoj hji hjun htj
   have hp:=zyk hro hoj hap (fun cs b=>hsel i oi cs b hi) (fun cs b=>hsel j oj cs b hoj) (yjm hta) hQ hy hH
   refine wpOpIn_mono (fun a' w' h3=>ih (listed.setIfInBounds j true) a' w' ?_ ?_ (ready_mono hr (Ne.symm hji)) h3.1 ?_) hp
   ·intro k ok hk hki hun htk
    refine h1 k ok hk hki ?_ htk
    by_cases hjk:j=k
    ·subst hjk;exact hjun
    ·rw [getD_set_ne true hjk] at hun;exact hun
   ·intro k ok hk hki hun htk
    have hjk:j≠k:=fun e=>by rw [e] at htj;rw [htj] at htk;cases htk
    rw [getD_set_ne true hjk] at hun
    obtain ⟨e,he,hb,hon⟩:=h2 k ok hk hki hun htk
    refine ⟨e,he,hb,?_⟩
    rcases hon with hon|⟨ht,hon⟩
    ·exact .inl hon
    ·refine .inr ⟨ht,?_⟩
     have hjo:j≠e.on:=fun e'=>by rw [← e'] at ht;rw [htj] at ht;cases ht
     rw [getD_set_ne true hjo];exact hon
   ·rw [Array.setIfInBounds_comm _ _ hji]
    exact h3.2
def yh2 (md:Region.Mode) (ops:Array Oper) (listed:Array Bool) (i:Nat) (ts:List Nat):Bool:=
 ts.contains i && (List.range ops.size).all fun j=>j == i || listed.getD j true || match ops[i]?,ops[j]? with
  | some oi,some oj=>if ts.contains j then yjl oj.op && oi.apart ops oj else oj.after.any fun e=>Region.binds md e && (e.on == i || (!ts.contains e.on && !listed.getD e.on true))
  | _,_=>false
theorem zao {i:Nat} {oi:Oper} {v:Value} {fuel:Nat} {listed:Array Bool} {a:Act} {w:World} (ts:List Nat) (hro:F.round=none) (hi:ops[i]? = some oi)
  (hs:Region.noSelect ops=true) (hc:yh2 md ops listed i ts=true) (hr:(Region.ready md ops listed).contains i=true)
  (hQ:∀ c a w,Q (.panic c) (a.put oi.dst v) w→Q (.panic c) a w) (hy:zny P ops oi v a w)
  (h:wpAnyIn F n P md ops Q fuel (listed.setIfInBounds i true) (a.put oi.dst v) w):wpAnyIn F n P md ops Q (fuel+1) listed a w:=by
 unfold yh2 at hc
 rw [Bool.and_eq_true,List.all_eq_true] at hc
 have hsize:∀ {j oj},ops[j]? = some oj→j<ops.size:=fun h=>(Array.getElem?_eq_some_iff.1 h).1
 refine zqb (fun j=>ts.contains j) hro hi hc.1 (Region.noSelect_spec hs) hQ fuel listed a w ?_ ?_ (by simpa using hr) hy h
 ·intro j oj hoj hji hun htj
  have:=hc.2 j (List.mem_range.2 (hsize hoj))
  simp only [hi,hoj,hun,Bool.or_false] at this
  rw [show (j == i)=false by simpa using hji] at this
  simp only [Bool.false_or,htj,if_true,Bool.and_eq_true] at this
  exact this
 ·intro j oj hoj hji hun htj
  have:=hc.2 j (List.mem_range.2 (hsize hoj))
  simp only [hi,hoj,hun,Bool.or_false] at this
  rw [show (j == i)=false by simpa using hji] at this
  simp only [Bool.false_or,htj,Bool.false_eq_true,if_false,Array.any_eq_true,Bool.and_eq_true,Bool.or_eq_true,beq_iff_eq,Bool.not_eq_true'] at this
  obtain ⟨k,hk,hb,hon⟩:=this
  refine ⟨oj.after[k],Array.getElem_mem hk,hb,?_⟩
  rcases hon with hon|⟨h1,h2⟩
  ·exact .inl hon
  ·exact .inr ⟨h1,h2⟩
end
end Go.Proofs.YtoifcnidhfnapaaGreatDoor
