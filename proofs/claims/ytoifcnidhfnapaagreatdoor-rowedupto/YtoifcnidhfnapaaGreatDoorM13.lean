import Derived.Test.YtoifcnidhfnapaaGreatDoorM12
import Derived.Test.YtoifcnidhfnapaaGreatDoorProg
import Derived.KernelRfl
import Derived.WalkKit
import Derived.Test.YtoifcnidhfnapaaGreatDoorM11
import Derived.Test.YtoifcnidhfnapaaGreatDoorM07
set_option linter.unusedVariables false
set_option linter.unusedSimpArgs false

namespace Go.Proofs.YtoifcnidhfnapaaGreatDoor
open Go

/-- The sort's functions, and where each holds the comparator. -/
def tnR : Sim.Tn := [(161, [1, 12]), (206, [4, 29, 36, 43, 51, 60, 79, 84, 102, 110, 133, 145]), (207, []), (170, []), (230, [3, 22]), (231, [3, 28, 58]), (232, [3]), (233, [3, 39, 43, 47, 53]), (234, [3]), (235, [3, 23, 72, 112]), (236, [4, 35, 54]), (237, [4, 36, 54, 109, 127]), (238, []), (239, []), (215, []), (261, [4, 24, 43]), (262, []), (263, []), (264, [3, 16]), (265, [5, 18, 27, 36]), (249, []), (282, [4, 12]), (277, [])]

def fnOf : Value := .func (.func 170) #[] #[]
def meOf : Value := .func (.methodOf 77 "Compare") #[] #[]

set_option maxRecDepth 100000 in
theorem tnR_all : (tnR.all fun x => Sim.fnOK Tryz.prog tnR x) = true := by kernel_rfl

theorem lookup_mem {l : Sim.Tn} {f : Nat} {T : List Nat} (h : l.lookup f = some T) : (f, T) ∈ l := by
  induction l with
  | nil => simp at h
  | cons x l ih =>
    obtain ⟨a, b⟩ := x
    simp only [List.lookup] at h
    split at h
    · rename_i e
      have : f = a := by simpa using e
      subst this
      cases h
      exact List.mem_cons_self ..
    · exact List.mem_cons_of_mem _ (ih h)

set_option maxRecDepth 100000 in
theorem noSteps : (Tryz.prog.funcs.all fun f => ((f.body.map readies).getD []).isEmpty) = true := by kernel_rfl

theorem stepOf_none (i : Nat) : Tryz.prog.stepOf i = none := by
  unfold Program.stepOf
  rw [Array.findIdx?_eq_none_iff]
  intro f hf
  have h := Array.all_eq_true_iff_forall_mem.1 noSteps f hf
  cases hb : f.body with
  | none => simp
  | some c => simp [hb] at h; simp [h]

set_option maxRecDepth 100000 in
theorem methR (n : Nat) (x : Value) (w : World) : (method (n + 1) 77 x "Compare").run Tryz.prog w = .ok (170, x) w := by kernel_rfl

set_option maxRecDepth 100000 in
set_option maxHeartbeats 1000000 in
theorem fineR : Sim.Fine Tryz.prog tnR fnOf meOf 170 where
  fns f T h := (List.all_eq_true.1 tnR_all) (f, T) (lookup_mem h)
  steps := stepOf_none
  follows := by kernel_rfl
  cmp := by rfl
  n1 b := by simp [fnOf]
  n2 b := by simp [meOf]
  one x y w := by
    simp only [fnOf, Deferred.ofValue, pure_bind, invoke, Array.append_empty, Array.empty_append]
    exact enters_of Tryz.func170 (by kernel_rfl) rfl #[x, y] w
  two x y w := by
    simp [meOf, Deferred.ofValue, invoke, callMethod]
    rw [show 446 + Made.depth = (446 + Made.depth - 1) + 1 from rfl, methR]
    exact enters_of Tryz.func170 (by kernel_rfl) rfl #[x, y] w

end Go.Proofs.YtoifcnidhfnapaaGreatDoor

namespace Go.Proofs.YtoifcnidhfnapaaGreatDoor
open Go.RowKit Go.Maps Go.Sort Go.Shelf

set_option maxRecDepth 100000 in
set_option maxHeartbeats 2000000 in
theorem ins0 (p : Option Addr) (cap : Nat) (fv : Value) (w : World) : Calls Tryz.prog 230 #[.slice p 0 cap, .int .i64 0, .int .i64 0, fv] w fun e w' => e = .returned (.tuple #[]) ∧ w' = w := by
  go_enter Tryz.func230, Tryz.ntmps230
  go_wp2
  refine wp_loop_rounds 1 ?_
  rw [rounds_succ]
  go_wp2
  go_end0
  exact ⟨rfl, rfl⟩

set_option maxRecDepth 100000 in
set_option maxHeartbeats 2000000 in
theorem pdq0 (p : Option Addr) (cap : Nat) (lim : Int) (fv : Value) (w : World) : Calls Tryz.prog 206 #[.slice p 0 cap, .int .i64 0, .int .i64 0, .int .i64 lim, fv] w fun e w' => e = .returned (.tuple #[]) ∧ w' = w := by
  go_enter Tryz.func206, Tryz.ntmps206
  go_wp2
  refine wp_loop_rounds 1 ?_
  rw [rounds_succ]
  go_wp2_with (go_at_call 230; refine (ins0 _ _ _ _).mono ?_; rintro e w' ⟨rfl, rfl⟩)
  (try simp only [Exit.inBlock, Exit.then])
  refine bodyPost_ret (results_none rfl _ _ _) rfl ?_
  exact ⟨rfl, rfl⟩

theorem bitsLen0 (w : World) : Calls Tryz.prog 207 #[.int .u64 0] w fun e w' => e = .returned (.int .i64 (Lib.bitLen 0 : Nat)) ∧ w' = w :=
  Any.bits_Len (SlLaysF0.n15.bits (P := Tryz.prog) (ρ := Tryz.sortRow_ren) { Tryz.sortRow with }) 0 w (by omega) (by omega)

set_option maxHeartbeats 2000000 in
theorem sortFunc0 (p : Option Addr) (cap : Nat) (fv : Value) (w : World) : Calls Tryz.prog 161 #[.slice p 0 cap, fv] w fun e w' => e = .returned (.tuple #[]) ∧ w' = w := by
  go_enter Tryz.func161, Tryz.ntmps161
  go_wp2_with (first | (go_at_call 207; refine (bitsLen0 _).mono ?_; rintro e w' ⟨rfl, rfl⟩) | (go_at_call 206; refine (pdq0 _ _ _ _ _).mono ?_; rintro e w' ⟨rfl, rfl⟩))
  go_end0
  exact ⟨rfl, rfl⟩

theorem sortFunc1a (blk cap : Nat) (d : Array Row) (w : World) (hH : HoldsK encR 3 w blk 0 d) (hblk : blk < w.heap.size) (hsz : d.size < 4611686018427387904) :
    Calls Tryz.prog 161 #[.slice (some ⟨blk, 0, none⟩) d.size cap, .func (.func 170) #[] #[]] w fun e w' => e = .returned (.tuple #[]) ∧ ∃ d' n os, PermIn 0 d.size d d' ∧ SortedIn (ltOf cmpR) 0 d.size d' ∧ w' = sortWorldK encR 3 w blk 0 n d' os := by
  have eg : ∀ args w, (callFunc 170 args).run Tryz.prog w = .ok (.enter 170 args) w := enters_of Tryz.func170 (by kernel_rfl) rfl
  exact AnyQ.slices_SortFunc Tryz.sortRow 3 Tryz.isAgg77 Tryz.sizeOf77 encR (fun _ => rfl) (fun x v hv => by simp [encR] at hv; rcases hv with rfl | rfl | rfl <;> rfl) cmpR swoR 170 #[] blk 0 cap d w eg (cmpLays33 blk 0 d.size w) hH hblk hsz

theorem lookSF : tnR.lookup 161 = some [1, 12] := by rfl

theorem sortFunc1 (blk cap : Nat) (d : Array Row) (w : World) (hH : HoldsK encR 3 w blk 0 d) (hblk : blk < w.heap.size) (hsz : d.size < 4611686018427387904) :
    Calls Tryz.prog 161 #[.slice (some ⟨blk, 0, none⟩) d.size cap, meOf] w fun e w' => e = .returned (.tuple #[]) ∧ ∃ d' n os, PermIn 0 d.size d d' ∧ SortedIn (ltOf cmpR) 0 d.size d' ∧ w' = sortWorldK encR 3 w blk 0 n d' os := by
  have hT : Sim.TRel fnOf meOf [1, 12] #[.slice (some ⟨blk, 0, none⟩) d.size cap, fnOf] #[.slice (some ⟨blk, 0, none⟩) d.size cap, meOf] := by
    refine ⟨rfl, fun i => ?_⟩
    match i with
    | 0 => exact Sim.VR.of_clean (by decide)
    | 1 => exact ⟨fun h => absurd (by decide) h, fun _ => .inr ⟨rfl, rfl⟩⟩
    | i + 2 => exact Sim.VR.refl_undef _ _ _ _
  have h1 := sortFunc1a blk cap d w hH hblk hsz
  exact Sim.calls_turn fineR lookSF hT (fun e w' h => ⟨_, h.1⟩) h1

/-- The rows of a map of weights, in order. -/
structure RowsOf (D : DataW Unit) (ys : List Row) : Prop where
  rising : Rising ys
  wf : ∀ y ∈ ys, WfRow y
  mem : ∀ r, WfRow r → (r ∈ ys ↔ Maps.has D (rowLit r) = true)

theorem len_le_size {D : DataW Unit} (hT : Tidy D) {xs : List Row} (hwf : ∀ x ∈ xs, WfRow x) (hap : xs.Pairwise (· ≠ ·)) (hm : ∀ x ∈ xs, Maps.has D (rowLit x) = true) : xs.length ≤ Maps.size D := by
  obtain ⟨es, rfl, hp⟩ := hT
  have h1 : (xs.map rowLit).length ≤ (es.map (·.1)).length := by
    refine length_le_of_apart _ _ ?_ (fun l hl => ?_)
    · rw [List.pairwise_map]
      exact hap.imp_of_mem (fun {a b} ha hb hne e => hne (rowLit_inj (hwf a ha) (hwf b hb) e))
    · obtain ⟨x, hx, rfl⟩ := List.mem_map.1 hl
      have h := hm x hx
      rw [has_eq] at h
      obtain ⟨p, hp1, hp2⟩ := List.any_eq_true.1 h
      exact List.mem_map.2 ⟨p, hp1, WideAt.sameKey_eq hp2⟩
  simpa [size_eq] using h1

set_option maxHeartbeats 2000000 in
theorem sortedFunc_any (Bm b nn : Nat) (D : DataW Unit) (g : Row → Int) (hrep : Rep D g) (w : World) (hm : w.cell? ⟨Bm, 0, none⟩ = some (.map (some b))) (hown : w.ownsMap Tryz.prog 77 (plainElem Tryz.prog 2) b nn D) (hnn : nn ≤ 1000000000) :
    Calls Tryz.prog 112 #[.func (.func 162) #[] #[.pointer (some ⟨Bm, 0, none⟩)], meOf] w fun e w' => ∃ v ys, e = .returned v ∧ RowsOf D ys ∧ TripsAt w' v ys ∧ RowKit.Below w.heap.size w w' ∧ ys.length ≤ nn ∧ ∀ gb ln cap, v = .slice (some ⟨gb, 0, none⟩) ln cap → w.heap.size ≤ gb := by
  have H := hide (collect_any Bm b nn D g hrep w hm hown hnn)
  have hszD := hown.size_le
  have hT := hown.tidy law60
  have HT := hide hT
  have HK := hide (own_keyish hown)
  have Hrep := hide hrep
  clear hrep hm hown hT
  go_enter Tryz.func112, Tryz.ntmps112
  go_wp2_with fail
  refine (unhide H).mono ?_
  rintro e w1 ⟨v, xs, rfl, hK, ho, hb⟩
  have hmem : ∀ r, WfRow r → (r ∈ xs ↔ Maps.has D (rowLit r) = true) := fun r hr => by rw [hK.mem r hr]; simp
  have hxl : xs.length ≤ nn := Nat.le_trans (len_le_size (unhide HT) hK.wf hK.apart (fun x hx => (hmem x (hK.wf x hx)).1 hx)) hszD
  rcases ho.2 with ⟨rfl, h0⟩ | ⟨gb, cap, cur, rfl, hbg, hgh, _⟩
  · have hx0 : xs = [] := List.eq_nil_of_length_eq_zero h0
    subst hx0
    have HR : Hid (RowsOf D []) := ⟨List.Pairwise.nil, fun y hy => by simp at hy, hmem⟩
    have Hb := hide hb
    clear H hK hmem ho hb
    go_wp2_with (first | (go_at_call 161; refine (sortFunc0 _ _ _ _).mono ?_; rintro e w' ⟨rfl, rfl⟩))
    go_ret
    exact ⟨_, [], rfl, unhide HR, ⟨none, 0, rfl, fun i hi => by simp at hi⟩, unhide Hb, by simp, fun gb ln cap e => by simp at e⟩
  · have hH := holds_of_own ho
    have hgl : gb < w1.heap.size := (Array.getElem?_eq_some_iff.1 hgh).1
    have Hs := hide (sortFunc1 gb cap xs.toArray w1 hH hgl (by simp; omega))
    have HH := hide hH
    have Hb := hide hb
    have Hmem := hide hmem
    have HKo := hide hK
    clear H hK hmem ho hb hgh hH
    go_wp2_with fail
    refine (unhide Hs).mono ?_
    rintro e w2 ⟨rfl, d', n, os, hp, hsrt, rfl⟩
    have hsz : d'.size = xs.length := by have := hp.1; simpa using this
    have hperm : d'.toList.Perm xs := by
      have h := hp.2.2
      have e1 : (d'.extract 0 xs.toArray.size) = d' := by rw [Array.extract_eq_self_of_le (by simp; omega)]
      have e2 : (xs.toArray.extract 0 xs.toArray.size) = xs.toArray := Array.extract_eq_self_of_le (by simp)
      rw [e1, e2] at h
      simpa using h
    have hHd : HoldsK encR 3 (sortWorldK encR 3 w1 gb 0 n d' os) gb 0 d' := holdsK_sortWorldK_c encR 3 w1 gb 0 xs.toArray d' n os (unhide HH) hgl (by simpa using hsz)
    have hR : RowsOf D d'.toList := by
      refine ⟨rising_of_sorted ?_ ?_, fun y hy => (unhide HKo).wf y (hperm.mem_iff.1 hy), fun r hr => by rw [hperm.mem_iff]; exact (unhide Hmem) r hr⟩
      · rw [hsz]; simpa using hsrt
      · exact (hperm.pairwise_iff (fun {a b} (h : a ≠ b) => h.symm)).2 (unhide HKo).apart
    have hTr := trips_of_holds (cap := cap) hHd
    have hBe : RowKit.Below w.heap.size w (sortWorldK encR 3 w1 gb 0 n d' os) := (unhide Hb).grown (grown_sort w1 gb n d' os) (unhide Hb).size (fun k e => by cases e; exact hbg)
    rw [hsz] at hTr
    have HF := hide (And.intro hR (And.intro hTr hBe))
    clear hR hTr hBe hHd hperm hp hsrt Hs
    generalize sortWorldK encR 3 w1 gb 0 n d' os = w3 at *
    go_wp2
    go_ret
    exact ⟨_, _, rfl, (unhide HF).1, (unhide HF).2.1, (unhide HF).2.2, by simp [hsz]; omega, fun g' ln cap' e => by simp at e; omega⟩

end Go.Proofs.YtoifcnidhfnapaaGreatDoor
