import Derived.Test.YtgddkjhknlgbbaaGreatDoorR18
import Derived.Test.YtgddkjhknlgbbaaGreatDoorR11
import Derived.Test.YtgddkjhknlgbbaaGreatDoorR14
import Derived.Test.YtgddkjhknlgbbaaGreatDoorR16
import Derived.Test.YtgddkjhknlgbbaaGreatDoorM13
import Derived.Test.YtgddkjhknlgbbaaGreatDoorR15
import Derived.Test.YtgddkjhknlgbbaaGreatDoorM20
set_option linter.unusedVariables false
set_option linter.unusedSimpArgs false

namespace Go.Proofs.YtgddkjhknlgbbaaGreatDoor
set_option linter.unusedVariables false
set_option linter.unusedSimpArgs false
open Go.RowKit

set_option maxRecDepth 100000 in
set_option maxHeartbeats 4000000 in
theorem faultOf_err (v : Value) (B c q : Nat) (W : World) (h : ErrAt B W v c q) (hg : W.cell? ⟨0, 0, none⟩ = some (.iface 215 (.agg #[.pointer (some ⟨5, 96, none⟩)]))) :
    Calls Tryz.prog 44 #[v] W fun e w' => e = .returned (.tuple #[.int .i64 c, .int .i64 q]) ∧ Below W.heap.size W w' := by
  obtain ⟨W1, hW1⟩ : ∃ W1, W1 = W.alloc (.cells #[.pointer none] 132) := ⟨_, rfl⟩
  have hb1 : Below W.heap.size W W1 := by rw [hW1]; exact (Below.refl _ _).alloc (Nat.le_refl _) _
  have hg1 := (hb1.cell (p := ⟨0, 0, none⟩) (World.block_lt_of_cell? W _ hg)).trans hg
  have Has := hide (errorsAs_any v B c q W.heap.size W1 (h.bel hb1) hg1 (by rw [hW1]; exact heap_last _ _ _ rfl))
  have HW1 := hide hW1
  have Hb1 := hide hb1
  clear h hg hg1 hb1 hW1
  go_enter Tryz.func44, Tryz.ntmps44
  go_wp2_with fail
  rw [← unhide HW1]
  refine (unhide Has).mono ?_
  rintro e w2 ⟨rfl, ⟨b, hc, hblk⟩, hk⟩
  have d0 : w2.cell? ⟨b, 0, none⟩ = some (.int .i64 c) := cell_of_heap hblk 0
  have d1 : w2.cell? ⟨b, 1, none⟩ = some (.int .i64 q) := cell_of_heap hblk 1
  have Hbe := hide ((unhide Hb1).trans (hk.below (unhide Hb1).size (fun k e => by omega)))
  clear hk hblk Has
  go_wp2
  go_region
  go_wp2
  go_ret2
  exact ⟨rfl, (unhide Hbe).trans ⟨rfl, rfl, rfl, Nat.le_refl _, fun _ _ => rfl⟩⟩

end Go.Proofs.YtgddkjhknlgbbaaGreatDoor

namespace Go.Proofs.YtgddkjhknlgbbaaGreatDoor
set_option linter.unusedVariables false
set_option linter.unusedSimpArgs false
open Go.RowKit Go.Maps Go.Sort Go.Shelf

theorem atomE_nat (st : St) (nm : ByteArray) (n : Nat) : ∃ c : Nat, atomE st nm n = (c : Int) := by
  unfold atomE
  split
  · exact ⟨1, rfl⟩
  · split
    · exact ⟨6, rfl⟩
    · split
      · exact ⟨0, rfl⟩
      · exact ⟨2, rfl⟩

set_option maxRecDepth 100000 in
set_option maxHeartbeats 4000000 in
theorem checkBody_any (QB : Nat) (H : List (Nat × Nat)) (B : List AtomQ) (W : World) (hQ : QryAt W QB H B) (hO : QryOK H B) (hn : ∀ a ∈ B, a.nm.size ≤ 1000) {eb db nD S E : Nat} {st : St} (hE : EngRep W eb db nD S E st) (har : ∀ nm R, st nm = some R → R.ar ≤ 1000) :
    Calls Tryz.prog 92 #[.pointer (some ⟨QB, 0, none⟩), .func (.func 72) #[.pointer (some ⟨eb, 0, none⟩)] #[]] W (CheckSaid W (bodyJ st B)) := by
  obtain ⟨hdv, bv, hblk, _, hbody⟩ := hQ.blk
  obtain ⟨ba, bcap, rfl, hx⟩ := hbody
  have h4 := hO.b4
  have ht3 := hO.t3
  have c1 : W.cell? ⟨QB, 1, none⟩ = some (.slice ba B.length bcap) := cell_of_heap hblk 1
  have hjl : (bodyJ st B).length = B.length := by simp [bodyJ]
  have hjk : ∀ k, k < B.length → (bodyJ st B)[k]?.getD (0, 0) = ((B[k]?.getD noAtom).pl, atomE st (B[k]?.getD noAtom).nm (B[k]?.getD noAtom).ts.length) := fun k hk => by simp [bodyJ, hk]
  obtain ⟨L, hL'⟩ : ∃ L, L = bodyJ st B := ⟨_, rfl⟩
  rw [← hL'] at hjl hjk ⊢
  have Hx := hide hx
  have HE := hide hE
  have Hn := hide hn
  have Har := hide har
  have Ht3 := hide ht3
  have Hjl := hide hjl
  have Hjk := hide hjk
  clear hQ hE hblk hx hn har ht3 hO hjl hjk hL'
  go_enter Tryz.func92, Tryz.ntmps92
  go_wp2
  go_loopw [13] (fun i wr => ∃ k : Nat, k ≤ B.length ∧ i = .int .i64 k ∧ firstBad (L.take k) = none ∧ Below W.heap.size W wr) (fun i _ => B.length - (intOf i).toNat)
  case atStart => exact ⟨0, Nat.zero_le _, rfl, rfl, Below.refl _ _⟩
  case round =>
    obtain ⟨k, hk, rfl, hfk, hbk⟩ := hrel
    by_cases hlt : k < B.length
    · have hkz : (k : Int) < (B.length : Int) := by omega
      obtain ⟨b, o, tv, rfl, e0, e1, e2, ht⟩ := (unhide Hx) k hlt
      have hbl : b < W.heap.size := World.block_lt_of_cell? W _ e0
      have hmem : (B[k]?.getD noAtom) ∈ B := by simp [hlt]
      have hLk := (unhide Hjk) k hlt
      obtain ⟨at_, hat⟩ : ∃ at_, at_ = B[k]?.getD noAtom := ⟨_, rfl⟩
      rw [← hat] at e0 e1 ht hmem hLk
      have hn1 := (unhide Hn) _ hmem
      have ht3 := (unhide Ht3) _ hmem
      replace e0 := (hbk.cell (p := ⟨b, o + k * 3, none⟩) hbl).trans e0
      replace e1 := (hbk.cell (p := ⟨b, o + k * 3 + 1, none⟩) hbl).trans e1
      replace e2 := (hbk.cell (p := ⟨b, o + k * 3 + 2, none⟩) hbl).trans e2
      obtain ⟨nm, pl, ts⟩ := at_
      dsimp only at *
      obtain ⟨ta, tcap, rfl, _⟩ := ht
      obtain ⟨wx, hwx⟩ : ∃ wx, wx = wr.alloc (.cells #[.string nm, .int .i64 pl, .slice ta ts.length tcap] 185) := ⟨_, rfl⟩
      have hb2 : Below W.heap.size W wx := by rw [hwx]; exact hbk.alloc hbk.size _
      have gx : wx.heap[wr.heap.size]? = some (.cells #[.string nm, .int .i64 pl, .slice ta ts.length tcap] 185 (0, 0)) := by rw [hwx]; exact heap_last _ _ _ rfl
      have g0 : wx.cell? ⟨wr.heap.size, 0, none⟩ = some (.string nm) := cell_of_heap gx 0
      have g1 : wx.cell? ⟨wr.heap.size, 1, none⟩ = some (.int .i64 pl) := cell_of_heap gx 1
      have g2 : wx.cell? ⟨wr.heap.size, 2, none⟩ = some (.slice ta ts.length tcap) := cell_of_heap gx 2
      obtain ⟨c, hc⟩ := atomE_nat st nm ts.length
      have hchk := atomCheck_any nm pl ta ts.length tcap wx ((unhide HE).below hb2) hn1 (by omega) (fun R' hR' => (unhide Har) _ R' hR')
      rw [hc] at hchk hLk
      have Hchk := hide hchk
      have Hb2 := hide hb2
      have hLl := unhide Hjl
      by_cases hz : c = 0
      · subst hz
        have Hf := hide (firstBad_snoc (L := L) (k := k) (by omega) hfk (by rw [hLk]; rfl))
        replace Hchk : Hid (Calls Tryz.prog 115 #[.agg #[.string nm, .int .i64 pl, .slice ta ts.length tcap], .func (.func 72) #[.pointer (some ⟨eb, 0, none⟩)] #[]] wx fun e w' => e = .returned (.int .i64 0) ∧ Below wx.heap.size wx w') := Hchk
        clear hbk hb2 hat hmem hLk hfk gx hchk hc
        go_upto_region 4 with fail
        rw [← hwx]
        clear hwx e0 e1 e2
        go_wp2_with fail
        refine (unhide Hchk).mono ?_
        rintro e w3 ⟨rfl, hb3⟩
        have Hb3 := hide ((unhide Hb2).trans (hb3.mono (unhide Hb2).size))
        clear hb3
        go_wp2
        go_roundw
        case rel => exact ⟨k + 1, by omega, by go_num, unhide Hf, unhide Hb3⟩
        case measure => simp [intOf]; omega
      · have hcz : ¬ (c : Int) = 0 := by omega
        have Hf := hide (firstBad_at (L := L) (k := k) (by omega) hfk (by rw [hLk]; exact hcz))
        rw [hLk] at Hf
        have Hgx := hide gx
        clear hbk hb2 hat hmem hLk hfk gx hchk hc
        go_upto_region 4 with fail
        rw [← hwx]
        clear hwx e0 e1 e2
        go_wp2_with fail
        refine (unhide Hchk).mono ?_
        rintro e w3 ⟨rfl, hb3⟩
        have hbW3 := (unhide Hb2).trans (hb3.mono (unhide Hb2).size)
        have k1 : w3.cell? ⟨wr.heap.size, 1, none⟩ = some (.int .i64 pl) := (hb3.cell (p := ⟨wr.heap.size, 1, none⟩) (Array.getElem?_eq_some_iff.1 (unhide Hgx)).1).trans g1
        obtain ⟨wy, hwy⟩ : ∃ wy, wy = w3.alloc (.cells #[.int .i64 c, .int .i64 pl] 136) := ⟨_, rfl⟩
        have hby : Below W.heap.size W wy := by rw [hwy]; exact hbW3.alloc hbW3.size _
        have gy : wy.heap[w3.heap.size]? = some (.cells #[.int .i64 c, .int .i64 pl] 136 (0, 0)) := by rw [hwy]; exact heap_last _ _ _ rfl
        have hi := inItem_any ⟨#[97, 116, 111, 109]⟩ (k + 1) (.iface 132 (.pointer (some ⟨w3.heap.size, 0, none⟩))) W.heap.size c pl wy (by decide) (by omega) (ErrAt.fault hbW3.size gy) hby.size
        rw [show (((k + 1 : Nat)) : Int) = (k : Int) + 1 from by omega] at hi
        have Hi := hide hi
        have Hby := hide hby
        clear hb3 hbW3 gy hi hby g0 g1 g2 Hchk
        go_wp2_with fail
        rw [← hwy]
        refine (unhide Hi).mono ?_
        rintro e w4 ⟨v', rfl, hv', hb4⟩
        have Hv' := hide hv'
        have Hb4 := hide ((unhide Hby).trans (hb4.mono (unhide Hby).size))
        clear hv' hb4 Hi
        go_wp2
        go_ret
        exact .inr ⟨pl, c, v', unhide Hf, rfl, unhide Hv', unhide Hb4⟩
    · have ek : k = B.length := by omega
      have Hbk := hide hbk
      have Hf : Hid (firstBad L = none) := by
        have := unhide Hjl
        rw [ek, ← this, List.take_length] at hfk
        exact hfk
      clear hbk hfk
      go_wp2
      go_ret
      exact .inl ⟨unhide Hf, rfl, unhide Hbk⟩

end Go.Proofs.YtgddkjhknlgbbaaGreatDoor

namespace Go.Proofs.YtgddkjhknlgbbaaGreatDoor
set_option linter.unusedVariables false
set_option linter.unusedSimpArgs false
open Go.RowKit Go.Maps Go.Sort Go.Shelf

theorem listP_all {α : Type} {item : Nat → Except Nat (α × Nat)} {s : ByteArray} {P : α → Prop} (hi : ∀ p x q, item p = .ok (x, q) → P x) : ∀ (m p : Nat) (acc xs : List α) (q : Nat), (∀ x ∈ acc, P x) → listP item s m p acc = .ok (xs, q) → (∀ x ∈ xs, P x) ∧ xs.length ≤ acc.length + m
  | 0, p, acc, xs, q, ha, h => by
    simp only [listP] at h
    injection h with h
    cases h
    exact ⟨ha, by omega⟩
  | m + 1, p, acc, xs, q, ha, h => by
    unfold listP at h
    cases e : item p with
    | error r => rw [e] at h; cases h
    | ok r =>
      obtain ⟨x, q1⟩ := r
      rw [e] at h
      dsimp only at h
      have ha' : ∀ y ∈ acc ++ [x], P y := fun y hy => by
        rcases List.mem_append.1 hy with hy | hy
        · exact ha y hy
        · rw [List.mem_singleton.1 hy]; exact hi p x q1 e
      by_cases hm : m = 0
      · rw [if_pos hm] at h
        cases h
        exact ⟨ha', by simp [hm]⟩
      · rw [if_neg hm] at h
        by_cases h44 : byteAt s (skipP s q1) = 44
        · rw [if_pos h44] at h
          obtain ⟨g1, g2⟩ := listP_all hi m _ _ _ _ ha' h
          exact ⟨g1, by simp at g2; omega⟩
        · rw [if_neg h44] at h
          cases h
          exact ⟨ha', by simp⟩

theorem isVr_bd {n : Nat} (h : isVr n = true) : 65 ≤ n ∧ n ≤ 90 := by simpa [isVr] using h

theorem termP_let {s : ByteArray} (p : Nat) (t : Nat × Int) (q : Nat) (h : termP s p = .ok (t, q)) : t.1 = 0 ∨ 65 ≤ t.1 ∧ t.1 ≤ 90 := by
  unfold termP at h
  cases hv : isVr (byteAt s (skipP s p)) with
  | true =>
    rw [hv, if_pos rfl] at h
    cases h
    exact .inr (isVr_bd hv)
  | false =>
    rw [hv, if_neg (by simp)] at h
    cases e : numP s (skipP s p) with
    | error r => rw [e] at h; cases h
    | ok r => obtain ⟨z, r⟩ := r; rw [e] at h; cases h; exact .inl rfl

/-- An atom as it is read. -/
def AtomOK (s : ByteArray) (a : AtomP) : Prop := a.nm.size ≤ s.size ∧ a.ts.length ≤ 3 ∧ ∀ t ∈ a.ts, t.1 = 0 ∨ 65 ≤ t.1 ∧ t.1 ≤ 90

theorem atomP_ok {s : ByteArray} (p : Nat) (a : AtomP) (q : Nat) (h : atomP s p = .ok (a, q)) : AtomOK s a := by
  unfold atomP at h
  dsimp only at h
  by_cases he : lettersP s (skipP s p) = skipP s p
  · rw [if_pos he] at h; cases h
  · rw [if_neg he] at h
    cases e1 : mustP s 40 (lettersP s (skipP s p)) with
    | error r => rw [e1] at h; cases h
    | ok p1 =>
      rw [e1] at h
      dsimp only at h
      cases e2 : listP (termP s) s 3 p1 [] with
      | error r => rw [e2] at h; cases h
      | ok r =>
        obtain ⟨ts, p2⟩ := r
        rw [e2] at h
        dsimp only at h
        cases e3 : mustP s 41 p2 with
        | error r => rw [e3] at h; cases h
        | ok p3 =>
          rw [e3] at h
          cases h
          obtain ⟨g1, g2⟩ := listP_all (P := fun t : Nat × Int => t.1 = 0 ∨ 65 ≤ t.1 ∧ t.1 ≤ 90) termP_let 3 p1 [] ts p2 (by simp) e2
          refine ⟨?_, by simpa using g2, g1⟩
          show (s.extract _ _).size ≤ s.size
          rw [ByteArray.size_extract]
          omega

theorem headVarP_let {s : ByteArray} (p : Nat) (t : Nat × Nat) (q : Nat) (h : headVarP s p = .ok (t, q)) : 65 ≤ t.1 ∧ t.1 ≤ 90 := by
  unfold headVarP at h
  cases hv : isVr (byteAt s (skipP s p)) with
  | true => rw [hv, if_pos rfl] at h; cases h; exact isVr_bd hv
  | false => rw [hv, if_neg (by simp)] at h; cases h

/-- What was read is as it should be. -/
structure ReadOK (s : ByteArray) (hs : List (Nat × Nat)) (ats : List AtomP) : Prop where
  h4 : hs.length ≤ 4
  hl : ∀ x ∈ hs, 65 ≤ x.1 ∧ x.1 ≤ 90
  b4 : ats.length ≤ 4
  at_ : ∀ a ∈ ats, AtomOK s a

theorem readP_ok {s : ByteArray} {hs : List (Nat × Nat)} {ats : List AtomP} (h : readP s = .ok (hs, ats)) : ReadOK s hs ats := by
  unfold readP at h
  cases e1 : headP s 0 with
  | error r => rw [e1] at h; cases h
  | ok r =>
    obtain ⟨hs', p1⟩ := r
    rw [e1] at h
    dsimp only at h
    cases e2 : markP s p1 with
    | error r => rw [e2] at h; cases h
    | ok p2 =>
      rw [e2] at h
      dsimp only at h
      cases e3 : bodyP s p2 with
      | error r => rw [e3] at h; cases h
      | ok bs =>
        rw [e3] at h
        cases h
        have hb : ats.length ≤ 4 ∧ ∀ a ∈ ats, AtomOK s a := by
          unfold bodyP at e3
          cases e4 : listP (atomP s) s 4 p2 [] with
          | error r => rw [e4] at e3; cases e3
          | ok r =>
            obtain ⟨bs', p3⟩ := r
            rw [e4] at e3
            dsimp only at e3
            by_cases hlt : skipP s p3 < s.size
            · rw [if_pos hlt] at e3; cases e3
            · rw [if_neg hlt] at e3
              cases e3
              obtain ⟨g1, g2⟩ := listP_all (P := AtomOK s) atomP_ok 4 p2 [] ats p3 (by simp) e4
              exact ⟨by simpa using g2, g1⟩
        have hh : hs.length ≤ 4 ∧ ∀ x ∈ hs, 65 ≤ x.1 ∧ x.1 ≤ 90 := by
          unfold headP at e1
          cases e4 : mustP s 40 0 with
          | error r => rw [e4] at e1; cases e1
          | ok p3 =>
            rw [e4] at e1
            dsimp only at e1
            by_cases h41 : byteAt s (skipP s p3) = 41
            · rw [if_pos h41] at e1; cases e1; simp
            · rw [if_neg h41] at e1
              cases e5 : listP (headVarP s) s 4 (skipP s p3) [] with
              | error r => rw [e5] at e1; cases e1
              | ok r =>
                obtain ⟨hs2, p4⟩ := r
                rw [e5] at e1
                dsimp only at e1
                cases e6 : mustP s 41 p4 with
                | error r => rw [e6] at e1; cases e1
                | ok p5 =>
                  rw [e6] at e1
                  cases e1
                  obtain ⟨g1, g2⟩ := listP_all (P := fun t : Nat × Nat => 65 ≤ t.1 ∧ t.1 ≤ 90) headVarP_let 4 (skipP s p3) [] hs p4 (by simp) e5
                  exact ⟨by simpa using g2, g1⟩
        exact ⟨hh.1, hh.2, hb.1, hb.2⟩

theorem ReadOK.qry {s : ByteArray} {hs : List (Nat × Nat)} {ats : List AtomP} (h : ReadOK s hs ats) : QryOK hs (ats.map AtomP.q) := ⟨h.h4, by simpa using h.b4, fun a ha => by obtain ⟨b, hb, rfl⟩ := List.mem_map.1 ha; exact (h.at_ b hb).2.1⟩
theorem ReadOK.lets {s : ByteArray} {hs : List (Nat × Nat)} {ats : List AtomP} (h : ReadOK s hs ats) : LetB (ats.map AtomP.q) := fun a ha => by obtain ⟨b, hb, rfl⟩ := List.mem_map.1 ha; exact (h.at_ b hb).2.2
theorem ReadOK.nms {s : ByteArray} {hs : List (Nat × Nat)} {ats : List AtomP} (h : ReadOK s hs ats) : ∀ a ∈ ats.map AtomP.q, a.nm.size ≤ s.size := fun a ha => by obtain ⟨b, hb, rfl⟩ := List.mem_map.1 ha; exact (h.at_ b hb).1

theorem firstBad_append (a b : List (Nat × Int)) : firstBad (a ++ b) = (firstBad a).or (firstBad b) := by unfold firstBad; rw [List.find?_append]

set_option maxRecDepth 100000 in
set_option maxHeartbeats 4000000 in
theorem check_any (QB : Nat) (H : List (Nat × Nat)) (B : List AtomQ) (W : World) (hQ : QryAt W QB H B) (hO : QryOK H B) (hL : LetB B) (hh : ∀ x ∈ H, 65 ≤ x.1 ∧ x.1 ≤ 90) (hn : ∀ a ∈ B, a.nm.size ≤ 1000) {eb db nD S E : Nat} {st : St} (hE : EngRep W eb db nD S E st) (har : ∀ nm R, st nm = some R → R.ar ≤ 1000) :
    Calls Tryz.prog 71 #[.pointer (some ⟨QB, 0, none⟩), .func (.func 72) #[.pointer (some ⟨eb, 0, none⟩)] #[]] W (CheckSaid W (headJ (lettersQ B) H ++ bodyJ st B)) := by
  have Hh := hide (checkHead_any QB H B W hQ hO hL hh)
  have Hb : ∀ W', Below W.heap.size W W' → Hid (Calls Tryz.prog 92 #[.pointer (some ⟨QB, 0, none⟩), .func (.func 72) #[.pointer (some ⟨eb, 0, none⟩)] #[]] W' (CheckSaid W' (bodyJ st B))) := fun W' h => checkBody_any QB H B W' (hQ.below h) hO hn (hE.below h) har
  have hap := firstBad_append (headJ (lettersQ B) H) (bodyJ st B)
  obtain ⟨L, hL'⟩ : ∃ L, L = headJ (lettersQ B) H ++ bodyJ st B := ⟨_, rfl⟩
  rw [← hL'] at hap ⊢
  generalize headJ (lettersQ B) H = L1 at *
  generalize bodyJ st B = L2 at *
  have Hap := hide hap
  clear hQ hO hL hh hn hE har hap hL'
  go_enter Tryz.func71, Tryz.ntmps71
  go_wp2_with fail
  refine (unhide Hh).mono ?_
  rintro e w1 (⟨hf, rfl, hb1⟩ | ⟨p, c, v, hf, rfl, hE1, hb1⟩)
  · have Hb1 := hide hb1
    have Hb2 := Hb w1 hb1
    have Hf := hide hf
    clear hb1 hf Hh Hb
    go_wp2_with fail
    refine (in_nil _ _).mono ?_
    rintro e w2 ⟨rfl, hw2⟩
    replace hw2 := hw2.symm
    subst hw2
    go_wp2_with fail
    refine (unhide Hb2).mono ?_
    rintro e w3 (⟨hf3, rfl, hb3⟩ | ⟨p, c, v, hf3, rfl, hE3, hb3⟩)
    · have Hb3 := hide ((unhide Hb1).trans (hb3.mono (unhide Hb1).size))
      have Hf3 := hide hf3
      clear hb3 hf3 Hb2
      go_wp2_with fail
      refine (in_nil _ _).mono ?_
      rintro e w4 ⟨rfl, hw4⟩
      replace hw4 := hw4.symm
      subst hw4
      go_wp2
      go_ret
      exact .inl ⟨by rw [unhide Hap, unhide Hf, unhide Hf3]; rfl, rfl, unhide Hb3⟩
    · have hB3 := (unhide Hb1).trans (hb3.mono (unhide Hb1).size)
      have Hb3 := hide hB3
      have Hf3 := hide hf3
      have Hi := hide (in_err ⟨#[98, 111, 100, 121]⟩ v W.heap.size c p w3 (hE3.mono (unhide Hb1).size) hB3.size)
      clear hb3 hf3 Hb2 hE3 hB3
      go_wp2_with fail
      refine (unhide Hi).mono ?_
      rintro e w4 ⟨v', rfl, hv', hb4⟩
      have Hv' := hide hv'
      have Hb4 := hide ((unhide Hb3).trans (hb4.mono (unhide Hb3).size))
      clear hv' hb4 Hi
      go_wp2
      go_ret
      exact .inr ⟨p, c, v', by rw [unhide Hap, unhide Hf, unhide Hf3]; rfl, rfl, unhide Hv', unhide Hb4⟩
  · have Hb1 := hide hb1
    have Hf := hide hf
    have Hi := hide (in_err ⟨#[104, 101, 97, 100]⟩ v W.heap.size c p w1 hE1 hb1.size)
    clear hb1 hf Hh Hb hE1
    go_wp2_with fail
    refine (unhide Hi).mono ?_
    rintro e w4 ⟨v', rfl, hv', hb4⟩
    obtain ⟨ty, bb, rfl, hty⟩ := hv'.form
    have Hv' := hide hv'
    have Hb4 := hide ((unhide Hb1).trans (hb4.mono (unhide Hb1).size))
    clear hv' hb4 Hi
    rcases hty with rfl | rfl
    · go_wp2
      go_ret
      exact .inr ⟨p, c, _, by rw [unhide Hap, unhide Hf]; rfl, rfl, unhide Hv', unhide Hb4⟩
    · go_wp2
      go_ret
      exact .inr ⟨p, c, _, by rw [unhide Hap, unhide Hf]; rfl, rfl, unhide Hv', unhide Hb4⟩

end Go.Proofs.YtgddkjhknlgbbaaGreatDoor

namespace Go.Proofs.YtgddkjhknlgbbaaGreatDoor
set_option linter.unusedVariables false
set_option linter.unusedSimpArgs false
open Go.RowKit Go.Maps Go.Sort Go.Shelf

/-- The faults of a query that has the form, in their order. -/
def judgeL (st : St) (hs : List (Nat × Nat)) (ats : List AtomP) : List (Nat × Int) := headJ (lettersQ (ats.map AtomP.q)) hs ++ bodyJ st (ats.map AtomP.q)

def RQSaid (W : World) (st : St) (s : ByteArray) (e : Ending) (w' : World) : Prop :=
  (∃ q v, readP s = .error q ∧ e = .returned (.tuple #[.pointer none, v]) ∧ ErrAt W.heap.size w' v 5 q ∧ Below W.heap.size W w') ∨
  (∃ hs ats QB, readP s = .ok (hs, ats) ∧ firstBad (judgeL st hs ats) = none ∧ e = .returned (.tuple #[.pointer (some ⟨QB, 0, none⟩), .nilIface]) ∧ QryAt w' QB hs (ats.map AtomP.q) ∧ Below W.heap.size W w') ∨
  (∃ hs ats QB p c v, readP s = .ok (hs, ats) ∧ firstBad (judgeL st hs ats) = some (p, ((c : Nat) : Int)) ∧ e = .returned (.tuple #[.pointer (some ⟨QB, 0, none⟩), v]) ∧ ErrAt W.heap.size w' v c p ∧ Below W.heap.size W w')

set_option maxRecDepth 100000 in
set_option maxHeartbeats 4000000 in
theorem readQuery_any (s : ByteArray) (hsz : s.size ≤ 300) (W : World) {eb db nD S E : Nat} {st : St} (hE : EngRep W eb db nD S E st) (har : ∀ nm R, st nm = some R → R.ar ≤ 1000) :
    Calls Tryz.prog 43 #[.pointer (some ⟨eb, 0, none⟩), .string s] W (RQSaid W st s) := by
  have HE := hide hE
  have Har := hide har
  have Hr := hide (read_any s hsz W)
  clear hE har
  go_enter Tryz.func43, Tryz.ntmps43
  go_wp2_with fail
  refine (unhide Hr).mono ?_
  rintro e w1 (⟨hs, xs, hv, bv, QB, hp, rfl, hq1, hq2, hq3, hq4, hq5, hb⟩ | ⟨q, v, hp, rfl, hErr, hb⟩)
  · have hQ : QryAt w1 QB hs ((xs.map (·.1)).map AtomP.q) := ⟨hv, bv, hq2, head_of_own hq3, body_of_own hq4 hq5⟩
    have hok := readP_ok hp
    have Hc := hide (check_any QB hs ((xs.map (·.1)).map AtomP.q) w1 hQ hok.qry hok.lets hok.hl (fun a ha => by have := hok.nms a ha; omega) ((unhide HE).below hb) (unhide Har))
    generalize xs.map (·.1) = ats at *
    have HQ := hide hQ
    have Hb := hide hb
    have Hp := hide hp
    clear hQ hb hp hq2 hq3 hq4 hq5 Hr hok
    go_wp2_with fail
    refine (unhide Hc).mono ?_
    rintro e w2 (⟨hf, rfl, hb2⟩ | ⟨p, c, v, hf, rfl, hErr, hb2⟩)
    · have HQ2 := hide ((unhide HQ).below hb2)
      have Hb2 := hide ((unhide Hb).trans (hb2.mono (unhide Hb).size))
      have Hf := hide hf
      clear hb2 hf Hc
      go_wp2
      go_ret2
      exact .inr (.inl ⟨hs, ats, QB, unhide Hp, unhide Hf, rfl, unhide HQ2, unhide Hb2⟩)
    · have Hb2 := hide ((unhide Hb).trans (hb2.mono (unhide Hb).size))
      have Hf := hide hf
      have HE2 := hide (hErr.mono (unhide Hb).size)
      clear hb2 hf Hc hErr
      go_wp2
      go_ret2
      exact .inr (.inr ⟨hs, ats, QB, p, c, v, unhide Hp, unhide Hf, rfl, unhide HE2, unhide Hb2⟩)
  · obtain ⟨ty, bb, rfl, hty⟩ := hErr.form
    have HE1 := hide hErr
    have Hb := hide hb
    have Hp := hide hp
    clear hErr hb hp Hr
    rcases hty with rfl | rfl
    · go_wp2
      go_ret2
      exact .inl ⟨q, _, unhide Hp, rfl, unhide HE1, unhide Hb⟩
    · go_wp2
      go_ret2
      exact .inl ⟨q, _, unhide Hp, rfl, unhide HE1, unhide Hb⟩

/-- An order that lists these letters, each once. -/
def OrdP (vs l : List Nat) : Prop := (∀ x ∈ l, 65 ≤ x ∧ x ≤ 90) ∧ l.Nodup ∧ maskL l = maskL vs
def OrdSaid (W : World) (vs : List Nat) (o : ByteArray) (e : Ending) (w' : World) : Prop := ∃ b, e = .returned (.bool b) ∧ (b = true ↔ (o = ⟨#[]⟩ ∨ OrdP vs (bytesO o))) ∧ Below W.heap.size W w'

set_option maxRecDepth 100000 in
set_option maxHeartbeats 4000000 in
theorem orderFits_any (QB : Nat) (o : ByteArray) (vs : List Nat) (W : World) (hv : ∀ x ∈ vs, 65 ≤ x ∧ x ≤ 90) (hsz : o.size ≤ 1000000000)
    (hbl : ∀ W', Below W.heap.size W W' → Calls Tryz.prog 77 #[.pointer (some ⟨QB, 0, none⟩)] W' fun e w' => e = .returned (.int .u32 (maskL vs : Nat)) ∧ Below W'.heap.size W' w') :
    Calls Tryz.prog 45 #[.pointer (some ⟨QB, 0, none⟩), .string o] W (OrdSaid W vs o) := by
  obtain ⟨W1, hW1⟩ : ∃ W1, W1 = W.alloc (.cells #[.int .u32 0] 138) := ⟨_, rfl⟩
  have hb1 : Below W.heap.size W W1 := by rw [hW1]; exact (Below.refl _ _).alloc (Nat.le_refl _) _
  have hs1 : W1.heap.size = W.heap.size + 1 := by rw [hW1]; simp
  have hB1 : W1.heap[W.heap.size]? = some (.cells #[.int .u32 0] 138 (0, 0)) := by rw [hW1]; exact heap_last _ _ _ rfl
  have Hbl := hide hbl
  have Hb1 := hide hb1
  have Hv' := hide hv
  clear hbl hb1 hv
  have hlen := bytesO_len o
  have hml := maskL_lt (l := vs) fun y hy => ((unhide Hv') y hy).2
  go_enter Tryz.func45, Tryz.ntmps45
  go_wp2_with fail
  rw [← hW1]
  clear hW1
  go_wp2
  go_loopw [9] (fun i wr => ∃ k : Nat, k ≤ o.size ∧ i = .int .i64 k ∧ (∀ x ∈ (bytesO o).take k, 65 ≤ x ∧ x ≤ 90) ∧ ((bytesO o).take k).Nodup ∧ wr.heap[W.heap.size]? = some (.cells #[.int .u32 (maskL ((bytesO o).take k) : Nat)] 138 (0, 0)) ∧ Below W.heap.size W wr) (fun i _ => o.size - (intOf i).toNat)
  case atStart => exact ⟨0, Nat.zero_le _, rfl, by simp, by simp, hB1, unhide Hb1⟩
  case round =>
    obtain ⟨k, hk, rfl, hbo, hno, hBk, hbk⟩ := hrel
    by_cases hlt : k < o.size
    · have hkz : (k : Int) < (o.size : Int) := by omega
      have hat := bytesO_at hlt
      obtain ⟨x, hx⟩ : ∃ x, x = o[k].toNat := ⟨_, rfl⟩
      have hxk : (bytesO o)[k]'(by omega) = x := by rw [hx, ← hat]; simp [hlen, hlt]
      have hmem : x ∈ bytesO o := by rw [← hxk]; exact List.getElem_mem _
      have htk : (bytesO o).take (k + 1) = (bytesO o).take k ++ [x] := by rw [List.take_succ_eq_append_getElem (by omega), hxk]
      have hmlt : maskL ((bytesO o).take k) < 4294967296 := maskL_lt fun y hy => (hbo y hy).2
      have c0 : wr.cell? ⟨W.heap.size, 0, none⟩ = some (.int .u32 (maskL ((bytesO o).take k) : Nat)) := cell_of_heap hBk 0
      have hix : ((o[k].toNat : Nat) : Int) = (x : Int) := by rw [hx]
      have hne : o ≠ ⟨#[]⟩ := fun e => by rw [e] at hlt; exact absurd hlt (Nat.not_lt_zero k)
      by_cases hvr : isVr x = true
      · obtain ⟨x1, x2⟩ := isVr_bd hvr
        have Hv : ∀ W', Hid (Calls Tryz.prog 74 #[.int .u8 x] W' fun e w' => e = .returned (.bool true) ∧ w' = W') := fun W' => by have := isVr_any x W'; rw [hvr] at this; exact this
        by_cases hin : x ∈ (bytesO o).take k
        · have hyes : (maskL ((bytesO o).take k)).testBit (x - 65) = true := by rw [maskL_test (fun y hy => (hbo y hy).1) x1]; exact decide_eq_true hin
          have Hh : ∀ W', Hid (Calls Tryz.prog 75 #[.int .u32 (maskL ((bytesO o).take k) : Nat), .int .u8 x] W' fun e w' => e = .returned (.bool true) ∧ w' = W') := fun W' => by have := lhas_any (maskL ((bytesO o).take k)) x W' hmlt x1 x2; rw [hyes] at this; exact this
          have Hfin : Hid (¬ (o = ⟨#[]⟩ ∨ OrdP vs (bytesO o))) := by
            rintro (h | ⟨_, h2, _⟩)
            · exact hne h
            · obtain ⟨j, hj, hjx⟩ := List.mem_take_iff_getElem.1 hin
              exact (List.pairwise_iff_getElem.1 h2 j k (by omega) (by omega) (by omega)) (hjx.trans hxk.symm)
          have Hbk := hide hbk
          clear hBk hbk hyes hat hmem hx hxk htk hbo hno hin hne
          go_wp2_with fail
          go_quiet ((first | (go_at_call 74; exact Calls.quiet_of_same (unhide (Hv _))) | (go_at_call 75; exact Calls.quiet_of_same (unhide (Hh _)))))
          go_wp2
          go_ret
          exact ⟨false, rfl, ⟨fun h => (by cases h), fun h => absurd h (unhide Hfin)⟩, (unhide Hbk).trans (belowNG _ _ _)⟩
        · have hnot : (maskL ((bytesO o).take k)).testBit (x - 65) = false := by rw [maskL_test (fun y hy => (hbo y hy).1) x1]; exact decide_eq_false hin
          have hsn : maskL ((bytesO o).take (k + 1)) = maskL ((bytesO o).take k) ||| 2 ^ (x - 65) := by
            unfold maskL
            rw [htk, maskF_snoc]
          have Hh : ∀ W', Hid (Calls Tryz.prog 75 #[.int .u32 (maskL ((bytesO o).take k) : Nat), .int .u8 x] W' fun e w' => e = .returned (.bool false) ∧ w' = W') := fun W' => by have := lhas_any (maskL ((bytesO o).take k)) x W' hmlt x1 x2; rw [hnot] at this; exact this
          have Hadd : ∀ W', W'.heap[W.heap.size]? = some (.cells #[.int .u32 (maskL ((bytesO o).take k) : Nat)] 138 (0, 0)) → Hid (Calls Tryz.prog 76 #[.pointer (some ⟨W.heap.size, 0, none⟩), .int .u8 x] W' fun e w' => e = .returned (.tuple #[]) ∧ w'.heap[W.heap.size]? = some (.cells #[.int .u32 (maskL ((bytesO o).take (k + 1)) : Nat)] 138 (0, 0)) ∧ w' = W'.setCell ⟨W.heap.size, 0, none⟩ (.int .u32 (maskL ((bytesO o).take (k + 1)) : Nat))) := fun W' h => by rw [hsn]; exact ladd_any W.heap.size _ x W' h hmlt x1 x2
          have Hbo : Hid (∀ y ∈ (bytesO o).take (k + 1), 65 ≤ y ∧ y ≤ 90) := fun y hy => by
            rw [htk] at hy
            rcases List.mem_append.1 hy with hy | hy
            · exact hbo y hy
            · rw [List.mem_singleton.1 hy]; exact ⟨x1, x2⟩
          have Hno : Hid (((bytesO o).take (k + 1)).Nodup) := by
            show ((bytesO o).take (k + 1)).Nodup
            rw [htk]
            exact List.nodup_append.2 ⟨hno, by simp, fun a ha b hb => by rw [List.mem_singleton.1 hb]; exact fun e => hin (e ▸ ha)⟩
          have HBk := hide hBk
          have Hbk := hide hbk
          clear hBk hbk hsn hnot hat hmem hx hxk htk hbo hno hin hne
          go_wp2_with fail
          go_quiet ((first | (go_at_call 74; exact Calls.quiet_of_same (unhide (Hv _))) | (go_at_call 75; exact Calls.quiet_of_same (unhide (Hh _)))))
          go_wp2_with (first | (go_at_call 76; refine (unhide (Hadd (World.drewN wr _) (by exact unhide HBk))).mono ?_; rintro e w3 ⟨rfl, hB3, hw3⟩; have hb3 : Below W.heap.size W w3 := by { rw [hw3]; exact ((unhide Hbk).trans (belowNG _ _ _)).setCell (p := ⟨W.heap.size, 0, none⟩) (Nat.le_refl _) _ }; clear hw3))
          have HB3 := hide hB3
          have Hb3 := hide hb3
          clear hB3 hb3
          go_roundw
          case rel => exact ⟨k + 1, by omega, by go_num, unhide Hbo, unhide Hno, unhide HB3, unhide Hb3⟩
          case measure => simp [intOf]; omega
      · have hvf : isVr x = false := by simpa using hvr
        have Hv : ∀ W', Hid (Calls Tryz.prog 74 #[.int .u8 x] W' fun e w' => e = .returned (.bool false) ∧ w' = W') := fun W' => by have := isVr_any x W'; rw [hvf] at this; exact this
        have Hfin : Hid (¬ (o = ⟨#[]⟩ ∨ OrdP vs (bytesO o))) := by
          rintro (h | ⟨h1, _, _⟩)
          · exact hne h
          · have := h1 x hmem
            rw [show isVr x = true from by simp [isVr, this]] at hvf
            cases hvf
        have Hbk := hide hbk
        clear hBk hbk hat hmem hx hxk htk hbo hno hne hvr hvf
        go_wp2_with fail
        go_quiet ((first | (go_at_call 74; exact Calls.quiet_of_same (unhide (Hv _)))))
        go_wp2
        go_ret
        exact ⟨false, rfl, ⟨fun h => (by cases h), fun h => absurd h (unhide Hfin)⟩, (unhide Hbk).trans (belowNG _ _ _)⟩
    · have hke : k = o.size := by omega
      subst hke
      rw [← hlen, List.take_length] at hBk hbo hno
      have c0 : wr.cell? ⟨W.heap.size, 0, none⟩ = some (.int .u32 (maskL (bytesO o) : Nat)) := cell_of_heap hBk 0
      have Hbk := hide hbk
      have Hbo := hide hbo
      have Hno := hide hno
      clear hBk hbk hbo hno
      by_cases h0 : o = ⟨#[]⟩
      · subst h0
        go_wp2_with fail
        go_quiet (fail)
        go_wp2
        go_ret
        exact ⟨true, rfl, ⟨fun _ => .inl rfl, fun _ => rfl⟩, (unhide Hbk).trans (belowNG _ _ _)⟩
      · have hem := some_bytes h0
        have hoz : (o.toList == ([] : List UInt8)) = false := by rw [List.beq_nil_eq, hem]
        have hWl : W.heap.size < wr.heap.size := World.block_lt_of_cell? wr _ c0
        have Hc := hide ((unhide Hbl) wr.drew ((unhide Hbk).trans (belowNG _ 1 _)))
        obtain ⟨m1, hm1⟩ : ∃ m1, m1 = maskL (bytesO o) := ⟨_, rfl⟩
        obtain ⟨m2, hm2⟩ : ∃ m2, m2 = maskL vs := ⟨_, rfl⟩
        rw [← hm1] at c0
        rw [← hm2] at Hc hml
        have Hfin : Hid ((decide ((m1 : Int) = (m2 : Int))) = true ↔ (o = ⟨#[]⟩ ∨ OrdP vs (bytesO o))) := by
          rw [decide_eq_true_iff]
          constructor
          · intro h; exact .inr ⟨unhide Hbo, unhide Hno, by rw [← hm1, ← hm2]; omega⟩
          · rintro (h | ⟨_, _, h⟩)
            · exact absurd h h0
            · rw [hm1, hm2, h]
        clear hm1 hm2
        go_wp2_with fail
        go_region_with (first
          | (go_at_call 77; refine (unhide Hc).mono ?_; rintro e w5 ⟨rfl, hb5⟩; have c5 : w5.cell? ⟨W.heap.size, 0, none⟩ = some (.int .u32 (m1 : Nat)) := (hb5.cell (p := ⟨W.heap.size, 0, none⟩) hWl).trans c0))
        all_goals
          have HF := hide ((unhide Hbk).trans (((belowNG _ 1 wr).trans (hb5.mono (Nat.le_refl _))).mono (unhide Hbk).size))
          clear hb5
          go_wp2
          go_ret
          exact ⟨decide ((m1 : Int) = (m2 : Int)), rfl, unhide Hfin, unhide HF⟩

end Go.Proofs.YtgddkjhknlgbbaaGreatDoor

namespace Go.Proofs.YtgddkjhknlgbbaaGreatDoor
set_option linter.unusedVariables false
set_option linter.unusedSimpArgs false
open Go.RowKit Go.Maps Go.Sort Go.Shelf

def memB (vs : List ByteArray) (nm : ByteArray) : Bool := vs.any fun x => decide (x = nm)
theorem memB_iff {vs : List ByteArray} {nm : ByteArray} : memB vs nm = true ↔ nm ∈ vs := by
  unfold memB
  rw [List.any_eq_true]
  constructor
  · rintro ⟨x, hx, h⟩; rw [← of_decide_eq_true h]; exact hx
  · intro h; exact ⟨nm, h, decide_eq_true rfl⟩
def newViewC (vs : List ByteArray) (nm s : ByteArray) : Int :=
  if nameB nm = false then 1 else if memB vs nm = true then 3 else if 6 ≤ vs.length ∨ 300 < s.size then 4 else 0

theorem nameB_size {nm : ByteArray} (h : nameB nm = true) : nm.size ≤ 8 := by
  unfold nameB at h
  simp at h
  exact h.1.2

set_option maxRecDepth 100000 in
set_option maxHeartbeats 4000000 in
theorem checkNewView_any (eb vb n : Nat) (vs : List ByteArray) (nm s : ByteArray) (W : World) (hc : W.cell? ⟨eb, 1, none⟩ = some (.map (some vb))) (hV : VRep W vb n vs) (hn : nm.size ≤ 10000000) (hs : s.size ≤ 10000000) (hl : vs.length ≤ 1000) :
    Calls Tryz.prog 42 #[.pointer (some ⟨eb, 0, none⟩), .string nm, .string s] W fun e w' => e = .returned (.int .i64 (newViewC vs nm s)) ∧ Below W.heap.size W w' := by
  have hel : eb < W.heap.size := World.block_lt_of_cell? W _ hc
  by_cases h1 : nameB nm = false
  · have hC : newViewC vs nm s = 1 := by unfold newViewC; rw [if_pos h1]
    rw [hC]
    have Hn := hide (isName_any nm W (by omega))
    rw [h1] at Hn
    clear hC h1 hV
    go_enter Tryz.func42, Tryz.ntmps42
    go_wp2_with fail
    refine (unhide Hn).mono ?_
    rintro e w1 ⟨rfl, hw1⟩
    replace hw1 := hw1.symm
    subst hw1
    go_wp2
    go_ret
    exact ⟨rfl, Below.refl _ _⟩
  · have h1' : nameB nm = true := by simpa using h1
    have Hn := hide (isName_any nm W (by omega))
    rw [h1'] at Hn
    have hmx : nm.size ≤ maxLen := by unfold maxLen; omega
    by_cases h2 : nm ∈ vs
    · have hC : newViewC vs nm s = 3 := by unfold newViewC; rw [if_neg h1, if_pos (memB_iff.2 h2)]
      rw [hC]
      have hlook := hV.look hmx true (by simp [h2])
      clear hC h1 h1' hV h2
      go_enter Tryz.func42, Tryz.ntmps42
      go_wp2_with fail
      refine (unhide Hn).mono ?_
      rintro e w1 ⟨rfl, hw1⟩
      replace hw1 := hw1.symm
      subst hw1
      go_wp2
      go_ret
      exact ⟨rfl, (Below.refl _ _).alloc (Nat.le_refl _) _⟩
    · have hlook := hV.look hmx false (by simp [h2])
      obtain ⟨W1, hW1⟩ : ∃ W1, W1 = W.alloc (.cells #[] 100) := ⟨_, rfl⟩
      have hb1 : Below W.heap.size W W1 := by rw [hW1]; exact (Below.refl _ _).alloc (Nat.le_refl _) _
      have hc1 := (hb1.cell (p := ⟨eb, 1, none⟩) hel).trans hc
      obtain ⟨D, hown, hsz, _⟩ := (hV.kept (hb1.block vb hV.lt)).ex
      have Hb1 := hide hb1
      have hC : newViewC vs nm s = if 6 ≤ vs.length ∨ 300 < s.size then 4 else 0 := by unfold newViewC; rw [if_neg h1, if_neg (fun h => h2 (memB_iff.1 h))]
      rw [hC]
      by_cases h3 : 6 ≤ vs.length
      · rw [if_pos (.inl h3)]
        have h3' : (6 : Int) ≤ (Maps.size D : Int) := by omega
        clear hC h1 h1' hV h2 hb1 hsz h3
        go_enter Tryz.func42, Tryz.ntmps42
        go_wp2_with fail
        refine (unhide Hn).mono ?_
        rintro e w1 ⟨rfl, hw1⟩
        replace hw1 := hw1.symm
        subst hw1
        go_upto_region 6 with fail
        rw [← hW1]
        clear hW1 hlook hc
        go_wp2_with (first
          | (at_len; refine wpList_len_own _ rfl _ 61 rfl 9 100 Tryz.underlying61 _ vb n D rfl hown ?_))
        go_ret
        exact ⟨rfl, unhide Hb1⟩
      · have h3' : ¬ (6 : Int) ≤ (Maps.size D : Int) := by omega
        by_cases h4 : 300 < s.size
        · rw [if_pos (.inr h4)]
          have h4' : (300 : Int) < (s.size : Int) := by omega
          clear hC h1 h1' hV h2 hb1 hsz h3 h4
          go_enter Tryz.func42, Tryz.ntmps42
          go_wp2_with fail
          refine (unhide Hn).mono ?_
          rintro e w1 ⟨rfl, hw1⟩
          replace hw1 := hw1.symm
          subst hw1
          go_upto_region 6 with fail
          rw [← hW1]
          clear hW1 hlook hc
          go_wp2_with (first
            | (at_len; refine wpList_len_own _ rfl _ 61 rfl 9 100 Tryz.underlying61 _ vb n D rfl hown ?_))
          go_ret
          exact ⟨rfl, unhide Hb1⟩
        · rw [if_neg (by omega)]
          have h4' : ¬ (300 : Int) < (s.size : Int) := by omega
          clear hC h1 h1' hV h2 hb1 hsz h3 h4
          go_enter Tryz.func42, Tryz.ntmps42
          go_wp2_with fail
          refine (unhide Hn).mono ?_
          rintro e w1 ⟨rfl, hw1⟩
          replace hw1 := hw1.symm
          subst hw1
          go_upto_region 6 with fail
          rw [← hW1]
          clear hW1 hlook hc
          go_wp2_with (first
            | (at_len; refine wpList_len_own _ rfl _ 61 rfl 9 100 Tryz.underlying61 _ vb n D rfl hown ?_))
          go_ret
          exact ⟨rfl, unhide Hb1⟩

set_option maxRecDepth 100000 in
set_option maxHeartbeats 4000000 in
/-- Drop: a view that there is not. -/
theorem drop_miss (eb vb n : Nat) (vs : List ByteArray) (nm : ByteArray) (W : World) (hc : W.cell? ⟨eb, 1, none⟩ = some (.map (some vb))) (hV : VRep W vb n vs) (hn : nm.size ≤ 10000000) (hx : nm ∉ vs) :
    Calls Tryz.prog 21 #[.pointer (some ⟨eb, 0, none⟩), .string nm] W fun e w' => e = .returned (.int .i64 6) ∧ Below W.heap.size W w' := by
  have hlook := hV.look (nm := nm) (by unfold maxLen; omega) false (by simp [hx])
  clear hV hx
  go_enter Tryz.func21, Tryz.ntmps21
  go_wp2
  go_ret
  exact ⟨rfl, (Below.refl _ _).alloc (Nat.le_refl _) _⟩

set_option maxRecDepth 100000 in
set_option maxHeartbeats 4000000 in
theorem drop_hit (eb vb n : Nat) (vs : List ByteArray) (nm : ByteArray) (W : World) (hc : W.cell? ⟨eb, 1, none⟩ = some (.map (some vb))) (hV : VRep W vb n vs) (hnd : vs.Nodup) (hn : nm.size ≤ 10000000) (hx : nm ∈ vs) :
    Calls Tryz.prog 21 #[.pointer (some ⟨eb, 0, none⟩), .string nm] W fun e w' => e = .returned (.int .i64 0) ∧ VRep w' vb n (vs.filter fun x => decide (x ≠ nm)) ∧ W.grownBy w' (some vb) := by
  have hmx : nm.size ≤ maxLen := by unfold maxLen; omega
  have hel : eb < W.heap.size := World.block_lt_of_cell? W _ hc
  have hlook := hV.look hmx true (by simp [hx])
  obtain ⟨W1, hW1⟩ : ∃ W1, W1 = W.alloc (.cells #[] 100) := ⟨_, rfl⟩
  have hb1 : Below W.heap.size W W1 := by rw [hW1]; exact (Below.refl _ _).alloc (Nat.le_refl _) _
  have hc1 := (hb1.cell (p := ⟨eb, 1, none⟩) hel).trans hc
  have hV1 := hV.kept (hb1.block vb hV.lt)
  obtain ⟨w2, hrun, hV2, hg2⟩ := hV1.del hnd hmx hx 0
  have HV2 := hide hV2
  have Hg : Hid (W.grownBy w2 (some vb)) := by
    refine ⟨hg2.os.trans hb1.os, hg2.tape.trans hb1.tape, hg2.output.trans hb1.output, Nat.le_trans hb1.size hg2.size, fun k hk hne => (hg2.block k (Nat.lt_of_lt_of_le hk hb1.size) hne).trans (hb1.block k hk)⟩
  clear hV hx hV1 hV2 hg2 hb1 hnd
  go_enter Tryz.func21, Tryz.ntmps21
  go_upto_region 4 with fail
  rw [← hW1]
  clear hW1 hlook hc
  go_wp2
  go_ret
  exact ⟨rfl, unhide HV2, unhide Hg⟩

end Go.Proofs.YtgddkjhknlgbbaaGreatDoor

namespace Go.Proofs.YtgddkjhknlgbbaaGreatDoor
set_option linter.unusedVariables false
set_option linter.unusedSimpArgs false
open Go.RowKit Go.Maps Go.Sort Go.Shelf

/-- A view of the reference's: its name, and its query's head, places and body. -/
structure VRow where
  nm : ByteArray
  h : Value
  p : Value
  b : Value
def zeroVR : VRow := ⟨⟨#[]⟩, .slice none 0 0, .slice none 0 0, .slice none 0 0⟩
def cellsVR (rs : List VRow) : List Value := rs.flatMap fun r => [.string r.nm, r.h, r.p, r.b]
theorem cellsVR_append (a b : List VRow) : cellsVR (a ++ b) = cellsVR a ++ cellsVR b := by simp [cellsVR]
theorem cellsVR_len (rs : List VRow) : (cellsVR rs).length = rs.length * 4 := by
  induction rs with
  | nil => rfl
  | cons a l ih => show (([Value.string a.nm, a.h, a.p, a.b] ++ cellsVR l).length) = _; rw [List.length_append, ih]; simp; omega

theorem Tryz.info112 : (Tryz.prog.info? 112).map (fun i => (i.zero, i.size, i.bytes)) = some (some (.agg #[.string ⟨#[]⟩, .slice none 0 0, .slice none 0 0, .slice none 0 0]), 4, 88) := by kernel_rfl
def ViewsAt (w : World) (v : Value) (rs : List VRow) : Prop :=
  ∃ a cap, v = .slice a rs.length cap ∧ ∀ i, i < rs.length → ∃ b, a = some ⟨b, 0, none⟩ ∧ w.cell? ⟨b, i * 4, none⟩ = some (.string (rs[i]?.getD zeroVR).nm)
theorem cellsVR_at : ∀ (rs : List VRow) (i : Nat) (hi : i < rs.length), (cellsVR rs)[i * 4]? = some (.string rs[i].nm) := by
  intro rs
  induction rs with
  | nil => intro i hi; simp at hi
  | cons p ps ih =>
    intro i hi
    have e : cellsVR (p :: ps) = [Value.string p.nm, p.h, p.p, p.b] ++ cellsVR ps := rfl
    rw [e]
    cases i with
    | zero => rfl
    | succ i =>
      have h2 : (i + 1) * 4 - 4 = i * 4 := by omega
      rw [List.getElem?_append_right (by simp; omega)]
      simp only [List.length_cons, List.length_nil, Nat.zero_add, Nat.reduceAdd, h2]
      rw [ih i (by simpa using hi)]
      simp
theorem views_of_own {w : World} {base : Nat} {v : Value} {rs : List VRow} (h : w.ownsRow base 112 4 v rs.length (cellsVR rs)) : ViewsAt w v rs := by
  rcases h.2 with ⟨rfl, h0⟩ | ⟨g, cap, cur, rfl, hb, hg, _⟩
  · have : rs = [] := List.eq_nil_of_length_eq_zero h0
    subst this
    exact ⟨none, 0, rfl, fun i hi => by simp at hi⟩
  · refine ⟨_, cap, rfl, fun i hi => ⟨g, rfl, ?_⟩⟩
    have hx : rs[i]?.getD zeroVR = rs[i] := by simp [hi]
    rw [hx, h.cellAt (i * 4) (by omega)]
    exact cellsVR_at rs i hi

def placeV : List VRow → ByteArray → Int → Int
  | [], _, _ => -1
  | r :: rs, nm, i => if r.nm = nm then i else placeV rs nm (i + 1)
theorem placeV_at {rs : List VRow} {nm : ByteArray} {k : Nat} (h : placeV rs nm 0 = placeV (rs.drop k) nm k) (hlt : k < rs.length) (x : VRow) (hx : x = rs[k]?.getD zeroVR) :
    (x.nm = nm → placeV rs nm 0 = k) ∧ (x.nm ≠ nm → placeV rs nm 0 = placeV (rs.drop (k + 1)) nm ((k + 1 : Nat) : Int)) := by
  have hxe : x = rs[k] := by rw [hx]; simp [hlt]
  rw [h, List.drop_eq_getElem_cons hlt, ← hxe]
  simp only [placeV]
  exact ⟨fun e => by rw [if_pos e], fun e => by rw [if_neg e]; push_cast; rfl⟩
theorem placeV_cases (nm : ByteArray) : ∀ (rs : List VRow) (i : Int), 0 ≤ i → (placeV rs nm i = -1 ∧ nm ∉ rs.map (·.nm)) ∨ ∃ k : Nat, ∃ hk : k < rs.length, placeV rs nm i = i + k ∧ rs[k].nm = nm ∧ nm ∉ (rs.take k).map (·.nm)
  | [], _, _ => .inl ⟨rfl, by simp⟩
  | r :: rs, i, hi => by
    by_cases e : r.nm = nm
    · exact .inr ⟨0, by simp, by simp [placeV, e], e, by simp⟩
    · have hp : placeV (r :: rs) nm i = placeV rs nm (i + 1) := by simp [placeV, e]
      rw [hp]
      rcases placeV_cases nm rs (i + 1) (by omega) with ⟨h1, h2⟩ | ⟨k, h1, h2, h3, h4⟩
      · refine .inl ⟨h1, fun h => ?_⟩
        rcases List.mem_cons.1 h with h | h
        · exact e h.symm
        · exact h2 h
      · refine .inr ⟨k + 1, by simp; omega, by rw [h2]; push_cast; omega, by simpa using h3, fun h => ?_⟩
        rcases List.mem_cons.1 h with h | h
        · exact e h.symm
        · exact h4 h

set_option maxRecDepth 100000 in
set_option maxHeartbeats 1000000 in
theorem view_any (fb : Nat) (v : Value) (rs : List VRow) (nm : ByteArray) (w : World) (c1 : w.cell? ⟨fb, 1, none⟩ = some v) (hv : ViewsAt w v rs) (hl : rs.length ≤ 1000000000) :
    Calls Tryz.prog 46 #[.pointer (some ⟨fb, 0, none⟩), .string nm] w fun e w' => e = .returned (.int .i64 (placeV rs nm 0)) ∧ w' = w := by
  obtain ⟨a, cap, rfl, hc⟩ := hv
  have Hc := hide hc
  clear hc
  go_enter Tryz.func46, Tryz.ntmps46
  go_wp2
  go_loop [5] (fun i => ∃ k : Nat, k ≤ rs.length ∧ i = .int .i64 k ∧ placeV rs nm 0 = placeV (rs.drop k) nm k) (fun i => rs.length - (intOf i).toNat)
  case atStart => exact ⟨0, Nat.zero_le _, rfl, by simp⟩
  case round =>
    obtain ⟨k, hk, rfl, hpl⟩ := hrel
    by_cases hlt : k < rs.length
    · have hx : (k : Int) < (rs.length : Int) := by omega
      obtain ⟨b, rfl, d0⟩ := (unhide Hc) k hlt
      obtain ⟨x, hxe⟩ : ∃ x, x = rs[k]?.getD zeroVR := ⟨_, rfl⟩
      have hp := placeV_at hpl hlt x hxe
      rw [← hxe] at d0
      obtain ⟨xn, xa, xr, xb⟩ := x
      dsimp only at d0 hp
      have hse := strEq xn nm
      have Hp := hide hp
      clear hpl hxe hp
      by_cases hN : xn = nm
      · rw [decide_eq_true hN] at hse
        have hv := (unhide Hp).1 hN
        have Hv := hide hv
        clear hv hN Hp
        go_wp2
        go_ret
        exact ⟨ret_int (unhide Hv).symm, rfl⟩
      · rw [decide_eq_false hN] at hse
        have hv := (unhide Hp).2 hN
        have Hv := hide hv
        clear hv hN Hp
        go_wp2
        go_round
        case rel => exact ⟨k + 1, by omega, by go_num, unhide Hv⟩
        case measure => simp [intOf]; omega
    · have hx : ¬ (k : Int) < (rs.length : Int) := by omega
      have hv : placeV rs nm 0 = -1 := by rw [hpl, List.drop_eq_nil_of_le (by omega)]; rfl
      have Hv := hide hv
      clear hv hpl
      go_wp2
      go_ret
      exact ⟨ret_int (unhide Hv).symm, rfl⟩

set_option maxRecDepth 100000 in
set_option maxHeartbeats 1000000 in
theorem refDrop_miss (fb : Nat) (v : Value) (rs : List VRow) (nm : ByteArray) (w : World) (c1 : w.cell? ⟨fb, 1, none⟩ = some v) (hv : ViewsAt w v rs) (hl : rs.length ≤ 1000) (hx : nm ∉ rs.map (·.nm)) :
    Calls Tryz.prog 22 #[.pointer (some ⟨fb, 0, none⟩), .string nm] w fun e w' => e = .returned (.int .i64 6) ∧ w' = w := by
  have H2 := hide (view_any fb v rs nm w c1 hv (by omega))
  have hp : placeV rs nm 0 = -1 := by
    rcases placeV_cases nm rs 0 (Int.le_refl _) with ⟨h, _⟩ | ⟨k, hk, _, h, _⟩
    · exact h
    · exact absurd (List.mem_map.2 ⟨_, List.getElem_mem hk, h⟩) hx
  rw [hp] at H2
  clear hp hx hv
  go_enter Tryz.func22, Tryz.ntmps22
  go_wp2_with fail
  refine (unhide H2).mono ?_
  rintro e w1 ⟨rfl, hw1⟩
  replace hw1 := hw1.symm
  subst hw1
  go_wp2
  go_ret
  exact ⟨rfl, rfl⟩

theorem add_at (g o j : Nat) : (⟨g, o, none⟩ : Addr).add j = ⟨g, o + j, none⟩ := by
  unfold Addr.add
  by_cases h : j = 0
  · simp [h]
  · simp [h]
theorem grown_two {W w1 w2 : World} {row : Option Nat} (h1 : W.grownBy w1 none) (h2 : w1.grownBy w2 row) (h : ∀ g, row = some g → W.heap.size ≤ g) : W.grownBy w2 none :=
  ⟨h2.os.trans h1.os, h2.tape.trans h1.tape, h2.output.trans h1.output, Nat.le_trans h1.size h2.size, fun k hk _ => (h2.block k (Nat.lt_of_lt_of_le hk h1.size) (fun e => by have := h k e.symm; omega)).trans (h1.block k hk (by simp))⟩

set_option maxRecDepth 100000 in
set_option maxHeartbeats 4000000 in
theorem refDrop_hit (fb : Nat) (v vw : Value) (rs : List VRow) (nm : ByteArray) (w : World) (hbox : w.heap[fb]? = some (.cells #[v, vw] 41 (0, 0))) (base : Nat) (hown : w.ownsRow base 112 4 vw rs.length (cellsVR rs)) (hone : ∀ u ∈ cellsVR rs, u.oneCell' = true) (hl : rs.length ≤ 1000) (k : Nat) (hk : k < rs.length) (hkn : placeV rs nm 0 = k) :
    Calls Tryz.prog 22 #[.pointer (some ⟨fb, 0, none⟩), .string nm] w fun e w' => ∃ v' w1, e = .returned (.int .i64 0) ∧ w1.ownsRow w.heap.size 112 4 v' (rs.take k ++ rs.drop (k + 1)).length (cellsVR (rs.take k ++ rs.drop (k + 1))) ∧ w.grownBy w1 none ∧ w' = w1.setCell ⟨fb, 1, none⟩ v' := by
  have c1 : w.cell? ⟨fb, 1, none⟩ = some vw := cell_of_heap hbox 1
  have H2 := hide (view_any fb vw rs nm w c1 (views_of_own hown) (by omega))
  rw [hkn] at H2
  obtain ⟨i112, hi, hz0, hz1, hz2⟩ := info_parts Tryz.info112
  obtain ⟨p, cap, rfl, hnc, hp0, hpc⟩ := own_form hown
  obtain ⟨ad, rfl⟩ : ∃ ad, p = some ad := by
    cases p with
    | some ad => exact ⟨ad, rfl⟩
    | none => have := (hp0 rfl).1; omega
  obtain ⟨g, rfl, hg0, hgl, hcell⟩ := hpc ad rfl
  have hfl : fb < w.heap.size := (Array.getElem?_eq_some_iff.1 hbox).1
  have hl1 : (rs.take k).length = k := by simp; omega
  have hl2 : (rs.drop (k + 1)).length = rs.length - (k + 1) := by simp
  have hsl1 : ∀ w', (Instr.slice 39 (.slice (some ⟨g, 0, none⟩) rs.length cap) none (some (.int .i64 (k : Int))) none).run Tryz.prog w' = .ok (.slice (some ⟨g, 0, none⟩) k cap) w' := fun w' => by
    have e1 : (k : Int) ≤ (cap : Int) := by omega
    simp [Instr.slice, run_underlying Tryz.underlying39, Instr.sliceBounds, run_sliceBound, e1, Addr.add]
  obtain ⟨ad, had⟩ : ∃ ad : Addr, ad = if cap = k + 1 then ⟨g, 0, none⟩ else ⟨g, (k + 1) * 4, none⟩ := ⟨_, rfl⟩
  have hsl2 : ∀ w', (Instr.slice 39 (.slice (some ⟨g, 0, none⟩) rs.length cap) (some (.int .i64 ((k : Int) + 1))) none none).run Tryz.prog w' = .ok (.slice (some ad) (rs.length - (k + 1)) (cap - (k + 1))) w' := fun w' => by
    have e0 : (0 : Int) ≤ (k : Int) + 1 := by omega
    have e1 : (k : Int) + 1 ≤ (rs.length : Int) := by omega
    have e2 : ((k : Int) + 1).toNat = k + 1 := by omega
    rw [had]
    by_cases hc : cap = k + 1
    · simp [Instr.slice, run_underlying Tryz.underlying39, Instr.sliceBounds, run_sliceBound, e0, e1, e2, Addr.add, hc]
    · simp [Instr.slice, run_underlying Tryz.underlying39, Instr.sliceBounds, run_sliceBound, e0, e1, e2, Addr.add, hc]
  have hcut : cellsVR rs = cellsVR (rs.take k) ++ cellsVR ([rs[k]] ++ rs.drop (k + 1)) := by
    rw [← cellsVR_append, List.singleton_append, ← List.drop_eq_getElem_cons hk, List.take_append_drop]
  have hnew1 : ∀ j u, (cellsVR (rs.take k))[j]? = some u → w.cell? ((⟨g, 0, none⟩ : Addr).add j) = some u := fun j u hj => by
    have hjl : j < (cellsVR (rs.take k)).length := (List.getElem?_eq_some_iff.1 hj).1
    rw [cellsVR_len, hl1] at hjl
    have := hcell j (by omega)
    rw [hcut, List.getElem?_append_left (by rw [cellsVR_len, hl1]; omega), hj] at this
    rw [add_at, Nat.zero_add]
    exact this
  have hnew2 : ∀ j u, (cellsVR (rs.drop (k + 1)))[j]? = some u → w.cell? (ad.add j) = some u := fun j u hj => by
    have hjl : j < (cellsVR (rs.drop (k + 1))).length := (List.getElem?_eq_some_iff.1 hj).1
    rw [cellsVR_len, hl2] at hjl
    have := hcell ((k + 1) * 4 + j) (by omega)
    rw [hcut, List.getElem?_append_right (by rw [cellsVR_len, hl1]; omega), cellsVR_len, hl1, cellsVR_append, List.getElem?_append_right (by rw [cellsVR_len]; simp; omega), cellsVR_len, show (k + 1) * 4 + j - k * 4 - [rs[k]].length * 4 = j from by simp; omega, hj] at this
    rw [had, if_neg (by omega), add_at]
    exact this
  have h1a : ∀ u ∈ cellsVR (rs.take k), u.oneCell' = true := fun u hu => hone u (by rw [hcut]; exact List.mem_append_left _ hu)
  have h1b : ∀ u ∈ cellsVR (rs.drop (k + 1)), u.oneCell' = true := fun u hu => hone u (by rw [hcut, cellsVR_append]; exact List.mem_append_right _ (List.mem_append_right _ hu))
  have hn1l : (cellsVR (rs.take k)).length = k * 4 := by rw [cellsVR_len, hl1]
  have hn2l : (cellsVR (rs.drop (k + 1))).length = (rs.length - (k + 1)) * 4 := by rw [cellsVR_len, hl2]
  have Hfin : Hid ((rs.take k ++ rs.drop (k + 1)).length = k + (rs.length - (k + 1)) ∧ cellsVR (rs.take k ++ rs.drop (k + 1)) = cellsVR (rs.take k) ++ cellsVR (rs.drop (k + 1))) := ⟨by rw [List.length_append, hl1, hl2], cellsVR_append _ _⟩
  have Hnew2 := hide hnew2
  generalize cellsVR (rs.take k) = N1 at *
  generalize cellsVR (rs.drop (k + 1)) = N2 at *
  have hmax : rs.length ≤ 1000 := hl
  have hsz1 : k ≤ 1000 := by omega
  clear had hcell hp0 hpc hcut hone hown hl1 hl2 hkn hnew2
  go_enter Tryz.func22, Tryz.ntmps22
  go_wp2_with fail
  refine (unhide H2).mono ?_
  rintro e w1 ⟨rfl, hw1⟩
  replace hw1 := hw1.symm
  subst hw1
  clear H2
  go_wp2_with (first
    | (at_builtin; refine wpList_append_own_at _ rfl _ _ 39 rfl w.heap.size 112 i112 _ 4 88 Tryz.underlying39 hi hz0 hz1 hz2 rfl (by decide) _ _ _ rfl (World.ownsRow_nil w _ _ _) ⟨g, 0, none⟩ k cap N1 rfl hn1l hnew1 h1a (by unfold maxLen; omega) (by omega) (Nat.le_refl _) ?_; intro v' w2 ho hgr _ hat; have hbox2 : w2.heap[fb]? = _ := (hgr.block fb hfl (fun e => absurd (show some fb = none from e) (by simp))).trans hbox; have cf := cell_of_heap hbox2 1; rw [List.nil_append, Nat.zero_add] at ho; obtain ⟨va, vc, rfl⟩ := own_sl ho; have Ho := hide ho; have Hgr := hide (show w.grownBy w2 none from hgr); have Hb2 := hide hbox2; clear ho hgr hbox2 hat hnew1 h1a hn1l)
    | (at_builtin; refine wpList_append_own_at _ rfl _ _ 39 rfl w.heap.size 112 i112 _ 4 88 Tryz.underlying39 hi hz0 hz1 hz2 rfl (by decide) _ _ _ rfl (unhide Ho) ad (rs.length - (k + 1)) (cap - (k + 1)) N2 rfl hn2l (fun j u hj => by have h0 := (unhide Hnew2) j u hj; exact ((grown_none_below (unhide Hgr)).cell (World.block_lt_of_cell? w _ h0)).trans h0) h1b (by unfold maxLen; omega) (by omega) (unhide Hgr).size ?_; intro v' w3 ho3 hgr3 _ hat3; have hown0 := fun g' h => (own_block (unhide Ho) g' h).1; have hbox3 : w3.heap[fb]? = _ := (hgr3.block fb (Nat.lt_of_lt_of_le hfl (unhide Hgr).size) (fun e => by have := hown0 fb e.symm; omega)).trans (unhide Hb2); have cg := cell_of_heap hbox3 1; have fg := frozen_of_heap hbox3 1; obtain ⟨vb, vd, rfl⟩ := own_sl ho3; have Ho3 := hide ho3; have Hgr3 := hide (grown_two (unhide Hgr) hgr3 hown0); clear ho3 hgr3 hat3 hbox3 hown0))
  go_ret
  refine ⟨_, w3, rfl, ?_, unhide Hgr3, rfl⟩
  rw [(unhide Hfin).1, (unhide Hfin).2]
  exact unhide Ho3

end Go.Proofs.YtgddkjhknlgbbaaGreatDoor
