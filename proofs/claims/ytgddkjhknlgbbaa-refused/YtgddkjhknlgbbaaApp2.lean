import Derived.Test.YtgddkjhknlgbbaaApp
namespace Go.Proofs.Ytgddkjhknlgbbaa
open Go.RowKit Go.Maps
attribute [local go_sem ↓] Go.wp_at_zero Go.wp_at_succ

/-- The state with the changes of the names in 'done' added. -/
def stAdd (st : St) (ch : Ch) (N : Nat) (done : ByteArray → Bool) : St := fun nm =>
  match st nm, ch nm with
  | some R, some p => if done nm = true then some { R with n := R.n + N, f := fun r => R.f r + p.2 r } else some R
  | o, _ => o

/-- The state with a batch added. -/
def stSum (st : St) (es : List Ent) : St := fun nm => (st nm).map fun R => { R with n := R.n + 2 * es.length, f := fun r => R.f r + sumE es nm r }

theorem stAdd_start (st : St) (ch : Ch) (N : Nat) (D : DataW Unit) : stAdd st ch N (fun nm => Maps.has D (strLit nm) && !Maps.has D (strLit nm)) = st := by
  funext nm
  unfold stAdd
  cases h1 : st nm with
  | none => rfl
  | some R => cases h2 : ch nm <;> simp

theorem EngRep.congr {w : World} {eb db nD S E : Nat} {st st' : St} (h : EngRep w eb db nD S E st)
    (he : ∀ nm, (st nm = none ∧ st' nm = none) ∨ ∃ R R', st nm = some R ∧ st' nm = some R' ∧ R'.rb = R.rb ∧ R'.mb = R.mb ∧ R'.ar = R.ar ∧ R.n ≤ R'.n ∧ ∀ r, WfRow r → R.f r = R'.f r) : EngRep w eb db nD S E st' := by
  have back : ∀ nm R', st' nm = some R' → ∃ R, st nm = some R ∧ R'.rb = R.rb ∧ R'.mb = R.mb ∧ R'.ar = R.ar ∧ R.n ≤ R'.n ∧ ∀ r, WfRow r → R.f r = R'.f r := by
    intro nm R' hR'
    rcases he nm with ⟨_, h2⟩ | ⟨R, Q, h1, h2, h3⟩
    · rw [h2] at hR'; cases hR'
    · rw [h2] at hR'; cases hR'; exact ⟨R, h1, h3⟩
  obtain ⟨e, ⟨D, h1, hhas, hat⟩, r, ap, inn, inr, top⟩ := h
  refine ⟨e, ⟨D, h1, fun m hm => ?_, fun m Q hm hQ => ?_⟩, fun m Q hQ => ?_, fun m m' Q Q' hQ hQ' hne => ?_, inn, fun m Q hQ => ?_, top⟩
  · rw [hhas m hm]
    rcases he m with ⟨h1, h2⟩ | ⟨R, Q, h1, h2, _⟩ <;> simp [h1, h2]
  · obtain ⟨R, hR, h3, _⟩ := back m Q hQ
    rw [h3]; exact hat m R hm hR
  · obtain ⟨R, hR, h3, h4, h5, h6, h7⟩ := back m Q hQ
    have hr := r m R hR
    rw [h3, h4, h5]
    exact ⟨hr.1, (hr.2.mono h6).congr h7⟩
  · obtain ⟨R, hR, _, h4, _⟩ := back m Q hQ
    obtain ⟨R', hR', _, h4', _⟩ := back m' Q' hQ'
    rw [h4, h4']; exact ap m m' R R' hR hR' hne
  · obtain ⟨R, hR, h3, h4, _⟩ := back m Q hQ
    rw [h3, h4]; exact inr m R hR

theorem stAdd_step {st : St} {ch : Ch} {N : Nat} {D : DataW Unit} {left : Lit → Bool} {s : ByteArray} {R : Rel} {p : Nat × (Row → Int)} (hR : st s = some R) (hp : ch s = some p) (hh : Maps.has D (strLit s) = true) :
    stSet (stAdd st ch N (fun nm => Maps.has D (strLit nm) && !left (strLit nm))) s { R with n := R.n + N, f := fun r => R.f r + p.2 r } =
      stAdd st ch N (fun nm => Maps.has D (strLit nm) && !(left (strLit nm) && !(strLit nm).sameKey (strLit s))) := by
  funext m
  unfold stSet
  by_cases e : m = s
  · subst e
    rw [if_pos rfl]
    unfold stAdd
    rw [hR, hp]
    simp [hh, WideAt.sameKey_self (strLit_isKey m)]
  · rw [if_neg e]
    have : (strLit m).sameKey (strLit s) = false := sameKey_ne (fun e' => e (strLit_inj e'))
    unfold stAdd
    simp [this]

theorem sumE_none {es : List Ent} {nm : ByteArray} (h : ∀ x ∈ es, x.nm ≠ nm) (r : Row) : sumE es nm r = 0 := by
  induction es with
  | nil => rfl
  | cons y ys ih =>
    simp only [sumE]
    rw [ih (fun z hz => h z (List.mem_cons_of_mem _ hz))]
    simp [h y (List.mem_cons_self)]

set_option maxRecDepth 100000 in
set_option maxHeartbeats 1000000 in
theorem apply_ok (v : Value) (es : List Ent) (w : World) {eb db nD S E : Nat} {st : St} (hE : EngRep w eb db nD S E st) (hv : EntsAt w v es) (hl : es.length ≤ 64) (hg : ∀ x ∈ es, GoodEnt x)
    (hok : ∀ i, i < es.length → Chk st (es[i]?.getD zeroEnt) 0) (hkn : ∀ x ∈ es, st x.nm ≠ none)
    (hfit : ∀ nm R, st nm = some R → R.n + 2 * es.length ≤ 100000 ∧ (∀ r, WfRow r → -1000 ≤ R.f r + sumE es nm r ∧ R.f r + sumE es nm r ≤ 1000) ∧ (∀ r, WfRow r → -1000 ≤ R.f r ∧ R.f r ≤ 1000) ∧
      ∃ G : List Row, G.length ≤ 16 ∧ ∀ r, WfRow r → R.f r + sumE es nm r ≠ 0 → r ∈ G) :
    Calls Try.prog 15 #[.pointer (some ⟨eb, 0, none⟩), v] w fun e w' => e = .returned (.tuple #[.int .i64 0, .int .i64 0]) ∧ EngRep w' eb db nD S E (stSum st es) ∧ Mid S E w w' := by
  have Hv := hide hv
  have hv2 := hv
  obtain ⟨a, cap, rfl, hcs⟩ := hv
  have Hc := hide hcs
  have HE := hide hE
  have Hok := hide hok
  have Hg := hide hg
  have Hkn := hide hkn
  have Hfit := hide hfit
  have hel : eb < w.heap.size := by have := hE.inn; have := hE.top; omega
  clear hcs hE hok hg hkn hfit hv2
  go_enter Try.func15, Try.ntmps15
  go_wp2
  go_loopw [18] (fun i wr => ∃ j : Nat, j ≤ es.length ∧ i = .int .i64 j ∧ Below w.heap.size w wr) (fun i _ => es.length - (intOf i).toNat)
  case atStart => exact ⟨0, Nat.zero_le _, rfl, Below.refl _ _⟩
  case round =>
    obtain ⟨j, hj, rfl, hB⟩ := hrel
    by_cases hlt : j < es.length
    · obtain ⟨b, o, sv, rfl, h1, h2, h3, h4⟩ := (unhide Hc) j hlt
      have hx : (j : Int) < (es.length : Int) := by omega
      have hbl : b < w.heap.size := World.block_lt_of_cell? w _ h1
      have h3c := h3
      obtain ⟨a2, cap2, rfl, _⟩ := h3c
      have hch := (unhide Hok) j (by omega)
      obtain ⟨x, hxe⟩ : ∃ x, x = es[j]?.getD zeroEnt := ⟨_, rfl⟩
      rw [← hxe] at h1 h2 h3 h4 hch
      rw [← hB.cell (p := ⟨b, _, none⟩) hbl] at h1 h2 h4
      obtain ⟨nm, row, wt⟩ := x
      dsimp only at h1 h2 h3 h4
      have hBW : Below w.heap.size w (wr.alloc (.cells #[.string nm, .slice a2 row.length cap2, .int .i64 wt] 39)) := hB.alloc hB.size _
      have H3 := hide (h3.below hBW)
      have HEW := hide ((unhide HE).below hBW)
      have HBW := hide hBW
      have Hch := hide hch
      clear hxe hB hBW h3 hch
      go_wp2_with (first
        | (go_at_call 23; refine ((unhide Hch) _ _ eb db nD S E (unhide HEW) (unhide H3)).mono ?_; rintro e w2 ⟨rfl, hb2⟩))
      have Hb2 := hide hb2
      clear hb2
      go_roundw
      case rel => exact ⟨j + 1, by omega, by go_num, (unhide HBW).trans ((unhide Hb2).mono (unhide HBW).size)⟩
      case measure => simp [intOf]; omega
    · obtain ⟨wo, hwo⟩ : ∃ wo, wo = wr := ⟨_, rfl⟩
      subst hwo
      have HvW := hide ((unhide Hv).below hB)
      have HEo := hide ((unhide HE).below hB)
      have HB := hide hB
      have hBs := hB.size
      clear hB
      go_wp2_with fail
      refine (sum_any _ es _ (unhide HvW) (unhide Hg) hl).mono ?_
      rintro e w1 ⟨ch, rfl, hC, hS, hb1⟩
      have hE1 := (unhide HEo).below hb1
      have hfitOK : FitOK st ch (2 * es.length) := by
        intro nm p hp
        obtain ⟨⟨x, hx, hxn⟩, hpf⟩ := (hS nm).2 p hp
        have hst := (unhide Hkn) x hx
        rw [hxn] at hst
        cases hR : st nm with
        | none => exact absurd hR hst
        | some R =>
          obtain ⟨f1, f2, f3, f4⟩ := (unhide Hfit) nm R hR
          refine ⟨R, rfl, f1, ?_, f3, ?_, ?_⟩
          · intro r hr; rw [hpf]; exact f2 r hr
          · intro r hr; rw [hpf]
            have := sumE_bd es (unhide Hg) nm r
            omega
          · rw [hpf]; exact f4
      go_wp2_with fail
      refine (chg_any w1 hE1 hC hfitOK).mono ?_
      rintro e w2 ⟨rfl, hb2⟩
      have hC2 := hC.below hb2
      have hE2 := hE1.below hb2
      have hBB : Below w.heap.size w w2 := ((unhide HB).trans (hb1.mono hBs)).trans (hb2.mono (Nat.le_trans hBs hb1.size))
      obtain ⟨D, hown, hhas, hat0⟩ := hC2.dir
      have HC2 := hide hC2
      have HE2 := hide hE2
      have HBB := hide hBB
      have HS := hide hS
      have HfO := hide hfitOK
      have Hhas := hide hhas
      have Hat := hide hat0
      have hEB : E ≤ wo.heap.size := (unhide HEo).top
      clear hC hS hb1 hE1 hfitOK hb2 hC2 hE2 hBB hhas hat0
      go_wp2_with (first
        | (at_range; refine wpList_range_own _ rfl _ 65 rfl 9 69 law9 Try.underlying65 _ wo.heap.size (2 * es.length) D rfl hown ?_; intro w3 hrg3 hg3 hs3)
        | go_in)
      go_frame
      go_loopw [41] (fun _ wr => ∃ left cnt, wr.ranges Try.prog 9 mapElem wo.heap.size w2.heap.size (2 * es.length) D left cnt ∧
          EngRep wr eb db nD S E (stAdd st ch (2 * es.length) (fun nm => Maps.has D (strLit nm) && !left (strLit nm))) ∧ Mid S E w2 wr) (fun _ wr => wr.rangeLeft wo.heap.size w2.heap.size)
      case atStart =>
        refine ⟨_, _, hrg3, ?_, ?_⟩
        · rw [stAdd_start]
          exact (unhide HE2).kept hg3.size (fun k _ hk => hg3.block k (Nat.lt_of_lt_of_le hk (unhide HE2).top) (by simp))
        · exact ⟨hg3.os, hg3.tape, hg3.output, hg3.size, fun k hk _ => hg3.block k hk (by simp)⟩
      case round =>
        obtain ⟨left, cnt, hrg, hEr, hM⟩ := hrel
        have HEr := hide hEr
        have HM := hide hM
        clear hEr hM
        go_wp2_with (first
          | (at_next; refine wpList_next_ranges _ rfl _ rfl 9 law9 mapElem Value.string Value.map invStr invMap wo.heap.size w2.heap.size (2 * es.length) D left cnt rfl hrg ?_ ?_)
          | go_in)
        · intro _ hl1
          go_wp2
          go_ret2
          refine ⟨rfl, (unhide HEr).congr (fun nm => ?_), ?_⟩
          · unfold stAdd stSum
            cases hR : st nm with
            | none => exact Or.inl ⟨rfl, rfl⟩
            | some R =>
              refine Or.inr ?_
              cases hp : ch nm with
              | none =>
                refine ⟨R, _, rfl, rfl, rfl, rfl, rfl, Nat.le_add_right _ _, fun r _ => ?_⟩
                have h0 := sumE_none ((unhide HS) nm |>.1 hp) r
                dsimp only
                rw [h0]; omega
              | some p =>
                obtain ⟨⟨x, hx, hxn⟩, hpf⟩ := ((unhide HS) nm).2 p hp
                have hsz : nm.size ≤ maxLen := by
                  rw [← hxn]; exact Nat.le_trans ((unhide Hg) x hx).1 (by unfold maxLen; omega)
                have hh := (unhide Hhas) nm hsz
                rw [hp] at hh
                refine ⟨{ R with n := R.n + 2 * es.length, f := fun r => R.f r + p.2 r }, _, ?_, rfl, rfl, rfl, rfl, Nat.le_refl _, fun r _ => ?_⟩
                · simp [hh, hl1]
                · dsimp only; rw [hpf]
          · exact (Mid.of_below (unhide HBB)).trans (unhide HM)
        · intro s o kl y1 y2 w4 cnt1 hkey hlk hv hat hrg1 hlt hg1 hs1 hen
          have hhas' := has_true_of_atKey hat
          obtain ⟨hs, hkl, p, hp, ho⟩ := cameCh (w := w2) (unhide Hhas) (unhide Hat) (y := (y1, y2)) hkey hv hat
          subst ho
          obtain ⟨R, hR, hn, hf1, hf2, hf3, _⟩ := (unhide HfO) s p hp
          rw [hkl] at hlk hhas' hrg1
          have hw2E : E ≤ w2.heap.size := (unhide HE2).top
          have hwr : w2.heap.size ≤ wr.heap.size := (unhide HM).size
          have hM4 : Mid S E w2 w4 := ⟨hg1.os.trans (unhide HM).os, hg1.tape.trans (unhide HM).tape, hg1.output.trans (unhide HM).output, Nat.le_trans hwr hg1.size, fun k hk ho => (hg1.block k (by omega) (fun e => by cases e; omega)).trans ((unhide HM).block k hk ho)⟩
          have hE4 := (unhide HEr).kept hg1.size (fun k _ hk => hg1.block k (by omega) (fun e => by cases e; omega))
          have hcur : stAdd st ch (2 * es.length) (fun nm => Maps.has D (strLit nm) && !left (strLit nm)) s = some R := by
            unfold stAdd; rw [hR, hp]; simp [hlk]
          have hC4 := (unhide HC2).kept (w' := w4) (fun k hk hk2 => hM4.block k hk2 (Or.inr (Nat.le_trans hEB hk)))
          have hpe := hC4.each s p hp
          have hin := hE4.inr s R hcur
          have hrun := hE4.get hs hcur
          have c1 : w4.cell? ⟨eb, 0, none⟩ = some (.map (some db)) := hE4.c0
          have Hrel := hide (hE4.rel s R hcur)
          have Hpe := hide hpe
          have Hrg1 := hide hrg1
          have Hrg := hide hrg
          have HM4 := hide hM4
          have HE4 := hide hE4
          have Hcur := hide hcur
          have Hlt := hide hlt
          have Hf2 := hide hf2
          have Hf3 := hide hf3
          have Hst := hide (stAdd_step (N := 2 * es.length) (left := left) hR hp hhas')
          have hne1 : p.1 ≠ R.mb := by have := hpe.2.1; omega
          have hne2 : wo.heap.size ≠ R.mb := by omega
          have hne3 : w2.heap.size ≠ R.mb := by omega
          have hm1 := hin.2.2.1
          have hm2 := hin.2.2.2.1
          clear hkey hlk hv hat hrg1 hrg hg1 hs1 hlt hE4 hcur hC4 hpe hM4 hf1 hf2 hf3 hp hR hin hhas'
          go_wp2_with (first
            | (go_at_call 26; refine (relAdd_any R.rb R.mb R.ar R.n p.1 (2 * es.length) R.f p.2 _ (unhide Hrel).1 (unhide Hrel).2 (unhide Hpe).1 hn hne1 (fun r hr => by have := (unhide Hf2) r hr; omega) (unhide Hf3)).mono ?_; rintro e w5 ⟨rfl, hW5, hg5⟩))
          have hR5 := (unhide Hrg1).kept hg5 (by simpa using hne2) (by simpa using hne3)
          have hE5 := (unhide HE4).added (unhide Hcur) hg5 hW5
          rw [unhide Hst] at hE5
          rw [hkl] at *
          refine ⟨⟨_, cnt1, hR5, hE5, (unhide HM4).trans (Mid.of_grown hg5 hm1 hm2)⟩, ?_⟩
          rw [hR5.left_eq, (unhide Hrg).left_eq]
          exact unhide Hlt

end Go.Proofs.Ytgddkjhknlgbbaa
