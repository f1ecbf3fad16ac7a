import Derived.Test.YtoifcnidhfnapaaGreatApp
set_option linter.unusedVariables false
set_option linter.unusedSimpArgs false
namespace Go.Proofs.YtoifcnidhfnapaaGreat
open Go.RowKit Go.Maps
attribute [local go_sem ↓] Go.wp_at_zero Go.wp_at_succ

/-- The state with the changes of the names in 'done' added. -/
def stAdd (st : St) (ch : Ch) (N : Nat) (done : ByteArray → Bool) : St := fun nm =>
  match st nm, ch nm with
  | some R, some p => if done nm = true then some { R with n := R.n + N, f := fun r => R.f r + p.2 r } else some R
  | o, _ => o

/-- The state with a batch added. -/
def stSum (st : St) (es : List Ent) : St := fun nm => (st nm).map fun R => { R with n := R.n + 2 * es.length, f := fun r => R.f r + sumE es nm r }

theorem stAdd_start (st : St) (ch : Ch) (N : Nat) (D : DataW Unit) : stAdd st ch N (fun nm => Maps.has D (strLit nm) && !Maps.has D (strLit nm)) = st := by
  funext nm
  unfold stAdd
  cases h1 : st nm with
  | none => rfl
  | some R => cases h2 : ch nm <;> simp

theorem EngRep.congr {w : World} {eb db nD S E : Nat} {st st' : St} (h : EngRep w eb db nD S E st)
    (he : ∀ nm, (st nm = none ∧ st' nm = none) ∨ ∃ R R', st nm = some R ∧ st' nm = some R' ∧ R'.rb = R.rb ∧ R'.mb = R.mb ∧ R'.ar = R.ar ∧ R.n ≤ R'.n ∧ ∀ r, WfRow r → R.f r = R'.f r) : EngRep w eb db nD S E st' := by
  have back : ∀ nm R', st' nm = some R' → ∃ R, st nm = some R ∧ R'.rb = R.rb ∧ R'.mb = R.mb ∧ R'.ar = R.ar ∧ R.n ≤ R'.n ∧ ∀ r, WfRow r → R.f r = R'.f r := by
    intro nm R' hR'
    rcases he nm with ⟨_, h2⟩ | ⟨R, Q, h1, h2, h3⟩
    · rw [h2] at hR'; cases hR'
    · rw [h2] at hR'; cases hR'; exact ⟨R, h1, h3⟩
  obtain ⟨⟨xe, e, e0, nv⟩, ⟨D, h1, hhas, hat⟩, r, ap, inn, inr, top⟩ := h
  refine ⟨⟨xe, e, e0, nv.turn (fun m Q hQ => by
    obtain ⟨R, hR, _, h4, _⟩ := back m Q hQ
    rw [h4]; exact nv.2.2.2.2.2 m R hR)⟩, ⟨D, h1, fun m hm => ?_, fun m Q hm hQ => ?_⟩, fun m Q hQ => ?_, fun m m' Q Q' hQ hQ' hne => ?_, inn, fun m Q hQ => ?_, top⟩
  · rw [hhas m hm]
    rcases he m with ⟨h1, h2⟩ | ⟨R, Q, h1, h2, _⟩ <;> simp [h1, h2]
  · obtain ⟨R, hR, h3, _⟩ := back m Q hQ
    rw [h3]; exact hat m R hm hR
  · obtain ⟨R, hR, h3, h4, h5, h6, h7⟩ := back m Q hQ
    have hr := r m R hR
    rw [h3, h4, h5]
    exact ⟨hr.1, (hr.2.mono h6).congr h7⟩
  · obtain ⟨R, hR, _, h4, _⟩ := back m Q hQ
    obtain ⟨R', hR', _, h4', _⟩ := back m' Q' hQ'
    rw [h4, h4']; exact ap m m' R R' hR hR' hne
  · obtain ⟨R, hR, h3, h4, _⟩ := back m Q hQ
    rw [h3, h4]; exact inr m R hR

theorem stAdd_step {st : St} {ch : Ch} {N : Nat} {D : DataW Unit} {left : Lit → Bool} {s : ByteArray} {R : Rel} {p : Nat × (Row → Int)} (hR : st s = some R) (hp : ch s = some p) (hh : Maps.has D (strLit s) = true) :
    stSet (stAdd st ch N (fun nm => Maps.has D (strLit nm) && !left (strLit nm))) s { R with n := R.n + N, f := fun r => R.f r + p.2 r } =
      stAdd st ch N (fun nm => Maps.has D (strLit nm) && !(left (strLit nm) && !(strLit nm).sameKey (strLit s))) := by
  funext m
  unfold stSet
  by_cases e : m = s
  · subst e
    rw [if_pos rfl]
    unfold stAdd
    rw [hR, hp]
    simp [hh, WideAt.sameKey_self (strLit_isKey m)]
  · rw [if_neg e]
    have : (strLit m).sameKey (strLit s) = false := sameKey_ne (fun e' => e (strLit_inj e'))
    unfold stAdd
    simp [this]

theorem sumE_none {es : List Ent} {nm : ByteArray} (h : ∀ x ∈ es, x.nm ≠ nm) (r : Row) : sumE es nm r = 0 := by
  induction es with
  | nil => rfl
  | cons y ys ih =>
    simp only [sumE]
    rw [ih (fun z hz => h z (List.mem_cons_of_mem _ hz))]
    simp [h y (List.mem_cons_self)]

theorem Tryz.row85 : (85 : TypeId) < Tryz.prog.types.size := of_decide_eq_true (by kernel_rfl)
theorem Tryz.wide85 : (match Tryz.prog.underlying 85 with | some (.array _ _) | some (.struct _) => true | _ => false) = true := by rw [Tryz.underlying85]
set_option maxRecDepth 100000 in
theorem law85 : Keyed Tryz.prog 85 := Keyed.of_law (deep_law_laid Tryz.laidOut (m := 3) (by omega) Tryz.row85 (by kernel_rfl) Tryz.wide85)

/-- A map that is empty has no next entry. -/
theorem wpList_next_none {P : Program} {R : Value → Option (DataW Unit × List MemPlace)} (w : World) {ops : Array Oper} {rest : List Oper} {o : Oper} {a : Act} {Q : Exit → Act → World → Prop} (hg : o.guard = none) (it : Operand) (hop : o.op = Op.next it false) (k : TypeId) (K : Keyed P k)
    (b r n cnt : Nat) (hit : a.eval it = .pointer (some ⟨r, 0, none⟩)) (h : w.ranges P k R b r n (.map [] : DataW Unit) (Maps.has (.map [] : DataW Unit)) cnt) (hDone : wpList P ops Q rest (a.put o.dst (.tuple #[.bool false])) w) : wpList P ops Q (o :: rest) a w :=
  wpList_next_ranges w hg it hop k K R id id (fun key _ _ => ⟨key, rfl⟩) (fun v _ _ => ⟨v, rfl⟩) b r n _ _ cnt hit h (fun _ _ => hDone) (fun x c kl y w' cnt' h1 h2 => by simp [Maps.has] at h2)

set_option maxRecDepth 100000 in
set_option maxHeartbeats 2000000 in
/-- add, where there is no view and no index. -/
theorem eadd_any (w : World) {eb db nD S E cb B n : Nat} {st : St} {ch : Ch} (hE : EngRep w eb db nD S E st) (hC : ChgRep w cb B n ch) (hfit : FitOK st ch n) (hEB : E ≤ B) (hsz : ∀ nm p, ch nm = some p → nm.size ≤ maxLen) :
    Calls Tryz.prog 27 #[.pointer (some ⟨eb, 0, none⟩), .map (some cb)] w fun e w' => e = .returned (.tuple #[]) ∧ EngRep w' eb db nD S E (stAdd st ch n (fun _ => true)) ∧ Mid S E w w' := by
  obtain ⟨xs, hx, hx0, hx1, hx2, hoI, hoV, hdb, hmb⟩ := hE.eng
  have hinn := hE.inn
  have htop := hE.top
  have c1 : w.cell? ⟨eb, 1, none⟩ = some (.map (some (db + 1))) := (cell_of_heap hx 1).trans hx1
  have HE := hide hE
  have HC := hide hC
  have Hfit := hide hfit
  have Hsz := hide hsz
  have Hmb := hide hmb
  clear hE hC hfit hsz hmb hx1
  go_enter Tryz.func27, Tryz.ntmps27
  go_wp2_with (first
    | (at_range; refine wpList_range_own _ rfl _ 53 rfl 85 86 law85 Tryz.underlying53 _ (db + 1) 0 (.map []) rfl hoI ?_; intro w1 hrg1 hg1 hs1; clear hs1)
    | go_in)
  (try go_frame)
  go_loopw [17] (fun _ wr => wr = w1) (fun _ _ => 0)
  case atStart => rfl
  case round =>
    have hq := hrel.symm
    subst hq
    have hx' := (hg1.block eb (by omega) (by simp)).trans hx
    have d2 : w1.cell? ⟨eb, 2, none⟩ = some (.map (some (db + 2))) := (cell_of_heap hx' 2).trans hx2
    have hoV1 := ownsMap_kept hoV (hg1.block (db + 2) (by omega) (by simp))
    have hoI1 := ownsMap_kept hoI (hg1.block (db + 1) (by omega) (by simp))
    go_wp2_with (first
      | (at_next; refine wpList_next_none _ rfl _ rfl 85 law85 (db + 1) w.heap.size 0 _ rfl hrg1 ?_)
      | (at_range; refine wpList_range_own _ rfl _ 54 rfl 9 88 law9 Tryz.underlying54 _ (db + 2) 0 (.map []) rfl hoV1 ?_; intro w2 hrg2 hg2 hs2; clear hs2)
      | go_in)
    (try go_frame)
    go_loopw [33] (fun _ wq => wq = w2) (fun _ _ => 0)
    case atStart => rfl
    case round =>
      have hq := hrel.symm
      subst hq
      have hx2' := (hg2.block eb (by have := hg1.size; omega) (by simp)).trans hx'
      have e1 : w2.cell? ⟨eb, 1, none⟩ = some (.map (some (db + 1))) := (cell_of_heap hx2' 1).trans ((cell_of_heap hx 1).symm.trans c1)
      have hoI2 := ownsMap_kept hoI1 (hg2.block (db + 1) (by have := hg1.size; omega) (by simp))
      go_wp2_with (first
        | (at_next; refine wpList_next_none _ rfl _ rfl 9 law9 (db + 2) w1.heap.size 0 _ rfl hrg2 ?_)
        | (at_range; refine wpList_range_own _ rfl _ 53 rfl 85 86 law85 Tryz.underlying53 _ (db + 1) 0 (.map []) rfl hoI2 ?_; intro w3 hrg3 hg3 hs3; clear hs3)
        | go_in)
      (try go_frame)
      go_loopw [44] (fun _ wp => wp = w3) (fun _ _ => 0)
      case atStart => rfl
      case round =>
        have hq := hrel.symm
        subst hq
        have hgg : w.grownBy w3 none := (hg1.trans hg2).trans hg3
        have hbB : Below w.heap.size w w3 := (Below.refl _ _).grown hgg (Nat.le_refl _) (fun k e => by cases e)
        have hEp := (unhide HE).below hbB
        have hCp := (unhide HC).below hbB
        have hszp := hgg.size
        obtain ⟨D, hown, hhas, hat0⟩ := hCp.dir
        have HCp := hide hCp
        have HEp := hide hEp
        have Hhas := hide hhas
        have Hat := hide hat0
        have HbB := hide hbB
        have Hg2 := hide hg2
        have Hg1 := hide hg1
        have hbase := (unhide HC).base
        clear hEp hCp hhas hat0 hbB hgg hg1 hg2 hx hx' hx2' hx0 hx2 c1 d2 e1 hoI hoV hoV1 hoI1 hoI2
        go_wp2_with (first
          | (at_next; refine wpList_next_none _ rfl _ rfl 85 law85 (db + 1) w2.heap.size 0 _ rfl hrg3 ?_)
          | (at_range; refine wpList_range_own _ rfl _ 67 rfl 9 75 law9 Tryz.underlying67 _ cb n D rfl hown ?_; intro w4 hrg4 hg4 hs4; clear hs4)
          | go_in)
        (try go_frame)
        go_loopw [52] (fun _ wr => ∃ left cnt, wr.ranges Tryz.prog 9 mapElem cb w3.heap.size n D left cnt ∧
            EngRep wr eb db nD S E (stAdd st ch n (fun nm => Maps.has D (strLit nm) && !left (strLit nm))) ∧ Mid S E w3 wr) (fun _ wr => wr.rangeLeft cb w3.heap.size)
        case atStart =>
          refine ⟨_, _, hrg4, ?_, ?_⟩
          · rw [stAdd_start]
            exact (unhide HEp).kept hg4.size (fun k _ hk => hg4.block k (Nat.lt_of_lt_of_le hk (unhide HEp).top) (by simp))
          · exact ⟨hg4.os, hg4.tape, hg4.output, hg4.size, fun k hk _ => hg4.block k hk (by simp)⟩
        case round =>
          obtain ⟨left, cnt, hrg, hEr, hM⟩ := hrel
          have HEr := hide hEr
          have HM := hide hM
          clear hEr hM
          go_wp2_with (first
            | (at_next; refine wpList_next_ranges _ rfl _ rfl 9 law9 mapElem Value.string Value.map invStr invMap cb w3.heap.size n D left cnt rfl hrg ?_ ?_)
            | go_in)
          · intro _ hl1
            go_wp2
            go_end0
            refine ⟨rfl, (unhide HEr).congr (fun nm => ?_), ?_⟩
            · unfold stAdd
              cases hR : st nm with
              | none => exact Or.inl ⟨rfl, rfl⟩
              | some R =>
                refine Or.inr ?_
                cases hp : ch nm with
                | none => exact ⟨R, _, rfl, rfl, rfl, rfl, rfl, Nat.le_refl _, fun r _ => rfl⟩
                | some p =>
                  have hh := (unhide Hhas) nm ((unhide Hsz) nm p hp)
                  rw [hp] at hh
                  exact ⟨{ R with n := R.n + n, f := fun r => R.f r + p.2 r }, _, by simp [hh, hl1], rfl, rfl, rfl, rfl, Nat.le_refl _, fun r _ => rfl⟩
            · exact (Mid.of_below (unhide HbB)).trans (unhide HM)
          · intro s o kl y1 y2 w5 cnt1 hkey hlk hv hat hrg1 hlt hg1 hs1 hen
            have hhas' := has_true_of_atKey hat
            obtain ⟨hs, hkl, p, hp, ho⟩ := cameCh (w := w3) (unhide Hhas) (unhide Hat) (y := (y1, y2)) hkey hv hat
            subst ho
            obtain ⟨R, hR, hn, hf1, hf2, hf3, _⟩ := (unhide Hfit) s p hp
            rw [hkl] at hlk hhas' hrg1
            have hw2E : E ≤ w3.heap.size := (unhide HEp).top
            have hwr : w3.heap.size ≤ wr.heap.size := (unhide HM).size
            have hM4 : Mid S E w3 w5 := ⟨hg1.os.trans (unhide HM).os, hg1.tape.trans (unhide HM).tape, hg1.output.trans (unhide HM).output, Nat.le_trans hwr hg1.size, fun k hk ho => (hg1.block k (by omega) (fun e => by cases e; omega)).trans ((unhide HM).block k hk ho)⟩
            have hE4 := (unhide HEr).kept hg1.size (fun k _ hk => hg1.block k (by omega) (fun e => by cases e; omega))
            have hcur : stAdd st ch n (fun nm => Maps.has D (strLit nm) && !left (strLit nm)) s = some R := by
              unfold stAdd; rw [hR, hp]; simp [hlk]
            have hC4 := (unhide HCp).kept (w' := w5) (fun k hk hk2 => hM4.block k hk2 (Or.inr (Nat.le_trans hEB hk)))
            have hpe := hC4.each s p hp
            have hin := hE4.inr s R hcur
            have hrun := hE4.get hs hcur
            have c1 : w5.cell? ⟨eb, 0, none⟩ = some (.map (some db)) := hE4.c0
            have Hrel := hide (hE4.rel s R hcur)
            have Hpe := hide hpe
            have Hrg1 := hide hrg1
            have Hrg := hide hrg
            have HM4 := hide hM4
            have HE4 := hide hE4
            have Hcur := hide hcur
            have Hlt := hide hlt
            have Hf2 := hide hf2
            have Hf3 := hide hf3
            have Hst := hide (stAdd_step (N := n) (left := left) hR hp hhas')
            have hne1 : p.1 ≠ R.mb := by have := hpe.2.1; omega
            have hne2 : cb ≠ R.mb := by omega
            have hne3 : w3.heap.size ≠ R.mb := by omega
            have hm1 := hin.2.2.1
            have hm2 := hin.2.2.2.1
            clear hkey hlk hv hat hrg1 hrg hg1 hs1 hlt hE4 hcur hC4 hpe hM4 hf1 hf2 hf3 hp hR hin hhas'
            go_wp2_with (first
              | (go_at_call 39; refine (relAdd_any R.rb R.mb R.ar R.n p.1 n R.f p.2 _ (unhide Hrel).1 (unhide Hrel).2 (unhide Hpe).1 hn hne1 (fun r hr => by have := (unhide Hf2) r hr; omega) (unhide Hf3)).mono ?_; rintro e w6 ⟨rfl, hW5, hg5⟩))
            have hR5 := (unhide Hrg1).kept hg5 (by simpa using hne2) (by simpa using hne3)
            have hE5 := (unhide HE4).added (unhide Hcur) hg5 hW5
            rw [unhide Hst] at hE5
            rw [hkl] at *
            refine ⟨⟨_, cnt1, hR5, hE5, (unhide HM4).trans (Mid.of_grown hg5 hm1 hm2)⟩, ?_⟩
            rw [hR5.left_eq, (unhide Hrg).left_eq]
            exact unhide Hlt

set_option maxRecDepth 100000 in
set_option maxHeartbeats 1000000 in
theorem apply_ok (v : Value) (es : List Ent) (w : World) {eb db nD S E : Nat} {st : St} (hE : EngRep w eb db nD S E st) (hv : EntsAt w v es) (hl : es.length ≤ 64) (hg : ∀ x ∈ es, GoodEnt x)
    (hok : ∀ i, i < es.length → Chk st (es[i]?.getD zeroEnt) 0) (hkn : ∀ x ∈ es, st x.nm ≠ none)
    (hfit : ∀ nm R, st nm = some R → R.n + 2 * es.length ≤ 100000 ∧ (∀ r, WfRow r → -1000 ≤ R.f r + sumE es nm r ∧ R.f r + sumE es nm r ≤ 1000) ∧ (∀ r, WfRow r → -1000 ≤ R.f r ∧ R.f r ≤ 1000) ∧
      ∃ G : List Row, G.length ≤ 16 ∧ ∀ r, WfRow r → R.f r + sumE es nm r ≠ 0 → r ∈ G) :
    Calls Tryz.prog 15 #[.pointer (some ⟨eb, 0, none⟩), v] w fun e w' => e = .returned (.tuple #[.int .i64 0, .int .i64 0]) ∧ EngRep w' eb db nD S E (stSum st es) ∧ Mid S E w w' := by
  have Hv := hide hv
  have hv2 := hv
  obtain ⟨a, cap, rfl, hcs⟩ := hv
  have Hc := hide hcs
  have HE := hide hE
  have Hok := hide hok
  have Hg := hide hg
  have Hkn := hide hkn
  have Hfit := hide hfit
  have hel : eb < w.heap.size := by have := hE.inn; have := hE.top; omega
  clear hcs hE hok hg hkn hfit hv2
  go_enter Tryz.func15, Tryz.ntmps15
  go_wp2
  go_loopw [16] (fun i wr => ∃ j : Nat, j ≤ es.length ∧ i = .int .i64 j ∧ Below w.heap.size w wr) (fun i _ => es.length - (intOf i).toNat)
  case atStart => exact ⟨0, Nat.zero_le _, rfl, Below.refl _ _⟩
  case round =>
    obtain ⟨j, hj, rfl, hB⟩ := hrel
    by_cases hlt : j < es.length
    · obtain ⟨b, o, sv, rfl, h1, h2, h3, h4⟩ := (unhide Hc) j hlt
      have hx : (j : Int) < (es.length : Int) := by omega
      have hbl : b < w.heap.size := World.block_lt_of_cell? w _ h1
      have h3c := h3
      obtain ⟨a2, cap2, rfl, _⟩ := h3c
      have hch := (unhide Hok) j (by omega)
      obtain ⟨x, hxe⟩ : ∃ x, x = es[j]?.getD zeroEnt := ⟨_, rfl⟩
      rw [← hxe] at h1 h2 h3 h4 hch
      rw [← hB.cell (p := ⟨b, _, none⟩) hbl] at h1 h2 h4
      obtain ⟨nm, row, wt⟩ := x
      dsimp only at h1 h2 h3 h4
      have hBW : Below w.heap.size w (wr.alloc (.cells #[.string nm, .slice a2 row.length cap2, .int .i64 wt] 39)) := hB.alloc hB.size _
      have H3 := hide (h3.below hBW)
      have HEW := hide ((unhide HE).below hBW)
      have HBW := hide hBW
      have Hch := hide hch
      clear hxe hB hBW h3 hch
      go_wp2_with (first
        | (go_at_call 24; refine ((unhide Hch) _ _ eb db nD S E (unhide HEW) (unhide H3)).mono ?_; rintro e w2 ⟨rfl, hb2⟩))
      have Hb2 := hide hb2
      clear hb2
      go_roundw
      case rel => exact ⟨j + 1, by omega, by go_num, (unhide HBW).trans ((unhide Hb2).mono (unhide HBW).size)⟩
      case measure => simp [intOf]; omega
    · obtain ⟨wo, hwo⟩ : ∃ wo, wo = wr := ⟨_, rfl⟩
      subst hwo
      have HvW := hide ((unhide Hv).below hB)
      have HEo := hide ((unhide HE).below hB)
      have HB := hide hB
      have hBs := hB.size
      clear hB
      go_wp2_with fail
      refine (sum_any _ es _ (unhide HvW) (unhide Hg) hl).mono ?_
      rintro e w1 ⟨ch, rfl, hC, hS, hb1⟩
      have hE1 := (unhide HEo).below hb1
      have hfitOK : FitOK st ch (2 * es.length) := by
        intro nm p hp
        obtain ⟨⟨x, hx, hxn⟩, hpf⟩ := (hS nm).2 p hp
        have hst := (unhide Hkn) x hx
        rw [hxn] at hst
        cases hR : st nm with
        | none => exact absurd hR hst
        | some R =>
          obtain ⟨f1, f2, f3, f4⟩ := (unhide Hfit) nm R hR
          refine ⟨R, rfl, f1, ?_, f3, ?_, ?_⟩
          · intro r hr; rw [hpf]; exact f2 r hr
          · intro r hr; rw [hpf]
            have := sumE_bd es (unhide Hg) nm r
            omega
          · rw [hpf]; exact f4
      go_wp2_with fail
      refine (chg_any w1 hE1 hC hfitOK).mono ?_
      rintro e w2 ⟨rfl, hb2⟩
      have hC2 := hC.below hb2
      have hE2 := hE1.below hb2
      have hBB : Below w.heap.size w w2 := ((unhide HB).trans (hb1.mono hBs)).trans (hb2.mono (Nat.le_trans hBs hb1.size))
      have hEB : E ≤ wo.heap.size := (unhide HEo).top
      have hszc : ∀ nm p, ch nm = some p → nm.size ≤ maxLen := by
        intro nm p hp
        obtain ⟨⟨x, hx, hxn⟩, _⟩ := (hS nm).2 p hp
        rw [← hxn]; exact Nat.le_trans ((unhide Hg) x hx).1 (by unfold maxLen; omega)
      have HC2 := hide hC2
      have HE2 := hide hE2
      have HBB := hide hBB
      have HS := hide hS
      have HfO := hide hfitOK
      have Hszc := hide hszc
      clear hC hS hb1 hE1 hfitOK hb2 hC2 hE2 hBB hszc
      go_wp2_with fail
      refine (eadd_any w2 (unhide HE2) (unhide HC2) (unhide HfO) hEB (unhide Hszc)).mono ?_
      rintro e w3 ⟨rfl, hE3, hM3⟩
      have HE3 := hide hE3
      have HM3 := hide hM3
      clear hE3 hM3
      go_wp2
      go_ret2
      refine ⟨rfl, (unhide HE3).congr (fun nm => ?_), (Mid.of_below (unhide HBB)).trans (unhide HM3)⟩
      unfold stAdd stSum
      cases hR : st nm with
      | none => exact Or.inl ⟨rfl, rfl⟩
      | some R =>
        refine Or.inr ?_
        cases hp : ch nm with
        | none =>
          refine ⟨R, _, rfl, rfl, rfl, rfl, rfl, Nat.le_add_right _ _, fun r _ => ?_⟩
          have h0 := sumE_none ((unhide HS) nm |>.1 hp) r
          dsimp only
          rw [h0]; omega
        | some p =>
          obtain ⟨⟨x, hx, hxn⟩, hpf⟩ := ((unhide HS) nm).2 p hp
          refine ⟨{ R with n := R.n + 2 * es.length, f := fun r => R.f r + p.2 r }, _, by simp, rfl, rfl, rfl, rfl, Nat.le_refl _, fun r _ => ?_⟩
          dsimp only; rw [hpf]

end Go.Proofs.YtoifcnidhfnapaaGreat
