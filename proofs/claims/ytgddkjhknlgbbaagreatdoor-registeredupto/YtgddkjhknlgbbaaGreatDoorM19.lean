import Derived.Test.YtgddkjhknlgbbaaGreatDoorM18
set_option linter.unusedVariables false
set_option linter.unusedSimpArgs false

namespace Go.Proofs.YtgddkjhknlgbbaaGreatDoor
set_option linter.unusedVariables false
set_option linter.unusedSimpArgs false
open Go.RowKit Go.Maps

/-- Every place of the slice reads as the pattern, in blocks of T's. -/
def Marks (T : Nat → Prop) (W : World) (u : Value) (size : Nat) (pat : List Value) : Prop :=
  ∃ p n cap, u = .slice p n cap ∧ n ≤ 1000000000 ∧ ∀ i, i < n → ∃ b, p = some ⟨b, 0, none⟩ ∧ T b ∧ ∀ j, j < size → W.cell? ⟨b, i * size + j, none⟩ = pat[j]?

theorem Marks.kept {T : Nat → Prop} {W W' : World} {u : Value} {size : Nat} {pat : List Value} (h : Marks T W u size pat) (hl : pat.length = size) (hk : ∀ b, T b → b < W.heap.size → W'.heap[b]? = W.heap[b]?) : Marks T W' u size pat := by
  obtain ⟨p, n, cap, h1, h2, h3⟩ := h
  refine ⟨p, n, cap, h1, h2, fun i hi => ?_⟩
  obtain ⟨b, hb, hT, hc⟩ := h3 i hi
  refine ⟨b, hb, hT, fun j hj => ?_⟩
  have h4 := hc j hj
  obtain ⟨x, hx⟩ : ∃ x, pat[j]? = some x := ⟨pat[j]'(by omega), by simp⟩
  rw [hx] at h4 ⊢
  have hlt := World.block_lt_of_cell? W _ h4
  rw [World.cell?_of_block (w := W) (a := ⟨b, _, none⟩) (hk b hT hlt)]
  exact h4

theorem Marks.imp {T T' : Nat → Prop} {W : World} {u : Value} {size : Nat} {pat : List Value} (h : Marks T W u size pat) (hT : ∀ b, T b → T' b) : Marks T' W u size pat := by
  obtain ⟨p, n, cap, h1, h2, h3⟩ := h
  exact ⟨p, n, cap, h1, h2, fun i hi => by obtain ⟨b, hb, h4, h5⟩ := h3 i hi; exact ⟨b, hb, hT b h4, h5⟩⟩

def markN (m : Int) : List Value := [.int .i64 m]
def markR (m : Int) : List Value := [.slice none 0 0, .int .i64 m]
def markE (m : Int) : List Value := [.string ⟨#[]⟩, .slice none 0 0, .int .i64 m]

/-- A hold: lists that came out, or were handed in, written full. -/
structure HoldRep (T : Nat → Prop) (W : World) (h : Nat) : Prop where
  ex : ∃ nv rv ev m ns rws, W.heap[h]? = some (.cells #[nv, rv, ev, .int .i64 m] 91 (0, 0)) ∧ T h ∧ (-1000000000000 ≤ m ∧ m ≤ 1000000000000) ∧ ns.length ≤ 1000000000 ∧ rws.length ≤ 1000000000 ∧
    OwnT T W 73 1 nv ns.length ns ∧ (∀ u ∈ ns, Marks T W u 1 (markN m)) ∧ OwnT T W 70 1 rv rws.length rws ∧ (∀ u ∈ rws, Marks T W u 2 (markR m)) ∧ Marks T W ev 3 (markE m)

theorem HoldRep.kept {T : Nat → Prop} {W W' : World} {h : Nat} (hh : HoldRep T W h) (hk : ∀ b, T b → b < W.heap.size → W'.heap[b]? = W.heap[b]?) : HoldRep T W' h := by
  obtain ⟨nv, rv, ev, m, ns, rws, h1, h2, h3, h4, h5, h6, h7, h8, h9, h10⟩ := hh.ex
  exact ⟨nv, rv, ev, m, ns, rws, (hk h h2 (heap_lt h1)).trans h1, h2, h3, h4, h5, h6.kept (fun g cur hT hg => hk g hT (heap_lt hg)), fun u hu => (h7 u hu).kept rfl hk, h8.kept (fun g cur hT hg => hk g hT (heap_lt hg)), fun u hu => (h9 u hu).kept rfl hk, h10.kept rfl hk⟩

theorem HoldRep.imp {T T' : Nat → Prop} {W : World} {h : Nat} (hh : HoldRep T W h) (hT : ∀ b, T b → T' b) : HoldRep T' W h := by
  obtain ⟨nv, rv, ev, m, ns, rws, h1, h2, h3, h4, h5, h6, h7, h8, h9, h10⟩ := hh.ex
  exact ⟨nv, rv, ev, m, ns, rws, h1, hT _ h2, h3, h4, h5, h6.imp hT, fun u hu => (h7 u hu).imp hT, h8.imp hT, fun u hu => (h9 u hu).imp hT, h10.imp hT⟩

theorem marks_ints {T : Nat → Prop} {W : World} {u : Value} {m : Int} (h : Marks T W u 1 (markN m)) : ∃ n, n ≤ 1000000000 ∧ IntsAt W u (List.replicate n m) := by
  obtain ⟨p, n, cap, rfl, h2, h3⟩ := h
  refine ⟨n, h2, p, cap, by simp, fun i hi => ?_⟩
  have hi' : i < n := by simpa using hi
  obtain ⟨b, hb, _, hc⟩ := h3 i hi'
  refine ⟨b, 0, hb, ?_⟩
  have := hc 0 (by omega)
  simp [markN] at this
  simp [hi', this]

theorem marks_ints2 {T : Nat → Prop} {W : World} {p : Option Addr} {n cap : Nat} {m : Int} (h : Marks T W (.slice p n cap) 1 (markN m)) : n ≤ 1000000000 ∧ IntsAt W (.slice p n cap) (List.replicate n m) := by
  obtain ⟨k, h1, h2⟩ := marks_ints h
  have h3 := h2
  obtain ⟨a, c, h4, _⟩ := h3
  cases h4
  simp only [List.length_replicate] at h2 ⊢
  exact ⟨h1, h2⟩

set_option maxRecDepth 100000 in
set_option maxHeartbeats 1000000 in
theorem allRows_any (T : Nat → Prop) (u : Value) (m : Int) (w : World) (h : Marks T w u 2 (markR m)) :
    Calls Tryz.prog 61 #[u, .int .i64 m] w fun e w' => e = .returned (.bool true) ∧ Drawn w w' := by
  obtain ⟨p, n, cap, rfl, h2, h3⟩ := h
  have H3 := hide h3
  clear h3
  go_enter Tryz.func61, Tryz.ntmps61
  go_wp2
  go_loopw [5] (fun i wr => ∃ k : Nat, k ≤ n ∧ i = .int .i64 k ∧ Drawn w wr) (fun i _ => n - (intOf i).toNat)
  case atStart => exact ⟨0, Nat.zero_le _, rfl, Drawn.refl _⟩
  case round =>
    obtain ⟨k, hk, rfl, hdr⟩ := hrel
    have Hdr := hide hdr
    clear hdr
    by_cases hlt : k < n
    · have hx : (k : Int) < (n : Int) := by omega
      obtain ⟨b, rfl, _, d⟩ := (unhide H3) k hlt
      have d0 := d 0 (by omega)
      have d1 := d 1 (by omega)
      simp only [markR, Nat.add_zero, List.getElem?_cons_zero, List.getElem?_cons_succ] at d0 d1
      rw [← (unhide Hdr).cell] at d0 d1
      clear d
      have hnn : (m != m) = false := by simp
      go_wp2
      first
        | (go_roundw
           case rel => exact ⟨k + 1, by omega, by go_num, unhide Hdr⟩
           case measure => simp [intOf]; omega)
        | (go_quiet (fail)
           go_wp2
           go_roundw
           case rel => exact ⟨k + 1, by omega, by go_num, (unhide Hdr).thenN _⟩
           case measure => simp [intOf]; omega)
    · have hx : ¬ (k : Int) < (n : Int) := by omega
      go_wp2
      go_ret
      exact ⟨rfl, unhide Hdr⟩

end Go.Proofs.YtgddkjhknlgbbaaGreatDoor

namespace Go.Proofs.YtgddkjhknlgbbaaGreatDoor
set_option linter.unusedVariables false
set_option linter.unusedSimpArgs false
open Go.RowKit Go.Maps

theorem mem_getD {α : Type} {l : List α} {i : Nat} {d : α} (h : i < l.length) : l[i]?.getD d ∈ l := by simp [h]

theorem own_cells1 {W : World} {T : Nat → Prop} {e : TypeId} {v : Value} {xs : List Value} (h : OwnT T W e 1 v xs.length xs) : ∃ p cap, v = .slice p xs.length cap ∧ ∀ i, i < xs.length → ∃ g, p = some ⟨g, 0, none⟩ ∧ W.cell? ⟨g, i, none⟩ = some (xs[i]?.getD nilV) := by
  obtain ⟨⟨base, ho⟩, _⟩ := h
  obtain ⟨p, c, rfl, _, hn, hs⟩ := own_form ho
  refine ⟨p, c, rfl, fun i hi => ?_⟩
  cases p with
  | none => have := hn rfl; omega
  | some ad =>
    obtain ⟨g, rfl, _, _, hc⟩ := hs ad rfl
    refine ⟨g, rfl, ?_⟩
    rw [hc i (by omega)]
    simp [hi]

set_option maxRecDepth 100000 in
set_option maxHeartbeats 2000000 in
theorem marked_any (T : Nat → Prop) (h : Nat) (w : World) (hh : HoldRep T w h) :
    Calls Tryz.prog 26 #[.pointer (some ⟨h, 0, none⟩)] w fun e w' => e = .returned (.bool true) ∧ Drawn w w' := by
  obtain ⟨nv, rv, ev, m, ns, rws, h1, h2, h3, h4, h5, h6, h7, h8, h9, h10⟩ := hh.ex
  have c0 : w.cell? ⟨h, 0, none⟩ = some nv := cell_of_heap h1 0
  have c1 : w.cell? ⟨h, 1, none⟩ = some rv := cell_of_heap h1 1
  have c2 : w.cell? ⟨h, 2, none⟩ = some ev := cell_of_heap h1 2
  have c3 : w.cell? ⟨h, 3, none⟩ = some (.int .i64 m) := cell_of_heap h1 3
  obtain ⟨pn, capn, rfl, hcn⟩ := own_cells1 h6
  obtain ⟨pr, capr, rfl, hcr⟩ := own_cells1 h8
  obtain ⟨pe, ne, cape, rfl, hne, hce⟩ := h10
  have Hcn := hide hcn
  have Hcr := hide hcr
  have Hce := hide hce
  have H7 := hide h7
  have H9 := hide h9
  clear hh h1 hcn hcr hce h6 h8 h7 h9
  go_enter Tryz.func26, Tryz.ntmps26
  go_wp2
  go_loopw [3] (fun i wr => ∃ k : Nat, k ≤ ns.length ∧ i = .int .i64 k ∧ Drawn w wr) (fun i _ => ns.length - (intOf i).toNat)
  case atStart => exact ⟨0, Nat.zero_le _, rfl, Drawn.refl _⟩
  case round =>
    obtain ⟨k, hk, rfl, hdr⟩ := hrel
    have Hdr := hide hdr
    have d0 := (hdr.cell _).trans c0
    have d1 := (hdr.cell _).trans c1
    have d2 := (hdr.cell _).trans c2
    have d3 := (hdr.cell _).trans c3
    clear hdr
    by_cases hlt : k < ns.length
    · have hx : (k : Int) < (ns.length : Int) := by omega
      obtain ⟨g, rfl, dk⟩ := (unhide Hcn) k hlt
      obtain ⟨u, hu⟩ : ∃ u, u = ns[k]?.getD nilV := ⟨_, rfl⟩
      have hum := (unhide H7) (ns[k]?.getD nilV) (mem_getD hlt)
      rw [← hu] at dk hum
      rw [← (unhide Hdr).cell] at dk
      obtain ⟨a9, n9, c9, hue, _⟩ := id hum
      subst hue
      obtain ⟨hn9, hi9⟩ := marks_ints2 hum
      have Hcall : Hid (∀ w9, Drawn w w9 → Calls Tryz.prog 60 #[.slice a9 n9 c9, .int .i64 m] w9 fun e w' => e = .returned (.bool true) ∧ Drawn w9 w') := fun w9 hd9 =>
        allNumbers_any _ (List.replicate n9 m) m w9 (hi9.drawn hd9) (by simp; omega) (fun z hz => (List.mem_replicate.1 hz).2)
      clear hu hum hn9 hi9
      go_wp2
      go_quiet ((go_at_call 60; exact quiet_of_drawn ((unhide Hcall) _ ((unhide Hdr).thenN _))))
      have Hd5 := hide ((unhide Hdr).thenN nq)
      clear Hcall
      go_wp2
      go_roundw
      case rel => exact ⟨k + 1, by omega, by go_num, unhide Hd5⟩
      case measure => simp [intOf]; omega
    · have hx : ¬ (k : Int) < (ns.length : Int) := by omega
      have Hdr1 := Hdr
      clear Hdr
      go_wp2
      go_loopw [5] (fun i wr => ∃ k : Nat, k ≤ rws.length ∧ i = .int .i64 k ∧ Drawn w wr) (fun i _ => rws.length - (intOf i).toNat)
      case atStart => exact ⟨0, Nat.zero_le _, rfl, unhide Hdr1⟩
      case round =>
        obtain ⟨q, hq, rfl, hdr⟩ := hrel
        have Hdr := hide hdr
        have d0 := (hdr.cell _).trans c0
        have d1 := (hdr.cell _).trans c1
        have d2 := (hdr.cell _).trans c2
        have d3 := (hdr.cell _).trans c3
        clear hdr
        by_cases hlq : q < rws.length
        · have hx2 : (q : Int) < (rws.length : Int) := by omega
          obtain ⟨g, rfl, dk⟩ := (unhide Hcr) q hlq
          obtain ⟨u, hu⟩ : ∃ u, u = rws[q]?.getD nilV := ⟨_, rfl⟩
          have hum := (unhide H9) (rws[q]?.getD nilV) (mem_getD hlq)
          rw [← hu] at dk hum
          rw [← (unhide Hdr).cell] at dk
          have Hcall : Hid (∀ w9, Drawn w w9 → Calls Tryz.prog 61 #[u, .int .i64 m] w9 fun e w' => e = .returned (.bool true) ∧ Drawn w9 w') := fun w9 hd9 =>
            allRows_any T u m w9 (hum.kept rfl (fun b _ _ => by rw [hd9.heap]))
          obtain ⟨a9, n9, c9, hue, _⟩ := hum
          subst hue
          clear hu
          go_wp2
          go_quiet ((go_at_call 61; exact quiet_of_drawn ((unhide Hcall) _ ((unhide Hdr).thenN _))))
          have Hd5 := hide ((unhide Hdr).thenN nq)
          clear Hcall
          go_wp2
          go_roundw
          case rel => exact ⟨q + 1, by omega, by go_num, unhide Hd5⟩
          case measure => simp [intOf]; omega
        · have hx2 : ¬ (q : Int) < (rws.length : Int) := by omega
          have Hdr2 := Hdr
          clear Hdr
          go_wp2
          go_loopw [7] (fun i wr => ∃ k : Nat, k ≤ ne ∧ i = .int .i64 k ∧ Drawn w wr) (fun i _ => ne - (intOf i).toNat)
          case atStart => exact ⟨0, Nat.zero_le _, rfl, unhide Hdr2⟩
          case round =>
            obtain ⟨r, hr, rfl, hdr⟩ := hrel
            have Hdr := hide hdr
            have d2 := (hdr.cell _).trans c2
            have d3 := (hdr.cell _).trans c3
            clear hdr
            by_cases hlr : r < ne
            · have hx3 : (r : Int) < (ne : Int) := by omega
              obtain ⟨b, rfl, _, d⟩ := (unhide Hce) r hlr
              have e0 := d 0 (by omega)
              have e1 := d 1 (by omega)
              have e2 := d 2 (by omega)
              simp only [markE, Nat.add_zero, List.getElem?_cons_zero, List.getElem?_cons_succ] at e0 e1 e2
              rw [← (unhide Hdr).cell] at e0 e1 e2
              clear d
              have hmm : (m != m) = false := by simp
              go_wp2
              go_quiet (fail)
              go_wp2
              go_roundw
              case rel => exact ⟨r + 1, by omega, by go_num, (unhide Hdr).thenN _⟩
              case measure => simp [intOf]; omega
            · have hx3 : ¬ (r : Int) < (ne : Int) := by omega
              go_wp2
              go_ret
              exact ⟨rfl, unhide Hdr⟩

set_option maxRecDepth 100000 in
set_option maxHeartbeats 2000000 in
/-- looks: all that came out, or was handed in, reads as its owner wrote it. -/
theorem looks_any (T : Nat → Prop) (wb : Nat) (pv hv : Value) (hs : List Nat) (w : World) (hbox : w.heap[wb]? = some (.cells #[pv, hv] 29 (0, 0))) (hown : OwnT T w 59 1 hv hs.length (hs.map fun h => .pointer (some ⟨h, 0, none⟩))) (T2 : Nat → Prop) (hhs : ∀ h ∈ hs, HoldRep T2 w h) (hl : hs.length ≤ 1000000000000) :
    Calls Tryz.prog 10 #[.pointer (some ⟨wb, 0, none⟩)] w fun e w' => e = .returned (.bool true) ∧ Drawn w w' := by
  have c1 : w.cell? ⟨wb, 1, none⟩ = some hv := cell_of_heap hbox 1
  have hlen : (hs.map fun h => Value.pointer (some ⟨h, 0, none⟩)).length = hs.length := by simp
  rw [← hlen] at hown
  obtain ⟨p, cap, rfl, hc⟩ := own_cells1 hown
  rw [hlen] at hc c1
  have Hc := hide hc
  have Hhs := hide hhs
  clear hbox hown hc hhs hlen
  go_enter Tryz.func10, Tryz.ntmps10
  go_wp2
  go_loopw [3] (fun i wr => ∃ k : Nat, k ≤ hs.length ∧ i = .int .i64 k ∧ Drawn w wr) (fun i _ => hs.length - (intOf i).toNat)
  case atStart => exact ⟨0, Nat.zero_le _, rfl, Drawn.refl _⟩
  case round =>
    obtain ⟨k, hk, rfl, hdr⟩ := hrel
    have Hdr := hide hdr
    have d1 := (hdr.cell _).trans c1
    clear hdr
    by_cases hlt : k < hs.length
    · have hx : (k : Int) < (hs.length : Int) := by omega
      obtain ⟨g, rfl, dk⟩ := (unhide Hc) k hlt
      obtain ⟨h, hh⟩ : ∃ h, h = hs[k] := ⟨_, rfl⟩
      have hm := (unhide Hhs) h (by rw [hh]; exact List.getElem_mem hlt)
      have e9 : (hs.map fun h => Value.pointer (some ⟨h, 0, none⟩))[k]?.getD nilV = .pointer (some ⟨h, 0, none⟩) := by simp [hlt, hh]
      rw [e9, ← (unhide Hdr).cell] at dk
      have Hcall : Hid (∀ w9, Drawn w w9 → Calls Tryz.prog 26 #[.pointer (some ⟨h, 0, none⟩)] w9 fun e w' => e = .returned (.bool true) ∧ Drawn w9 w') := fun w9 hd9 =>
        marked_any T2 h w9 (hm.kept (fun b _ _ => by rw [hd9.heap]))
      clear e9 hm hh
      go_wp2_with fail
      refine ((unhide Hcall) _ (unhide Hdr)).mono ?_
      rintro e w5 ⟨rfl, hd5⟩
      have Hd5 := hide ((unhide Hdr).trans hd5)
      clear hd5 Hcall
      go_wp2
      go_roundw
      case rel => exact ⟨k + 1, by omega, by go_num, unhide Hd5⟩
      case measure => simp [intOf]; omega
    · have hx : ¬ (k : Int) < (hs.length : Int) := by omega
      go_wp2
      go_ret
      exact ⟨rfl, unhide Hdr⟩

end Go.Proofs.YtgddkjhknlgbbaaGreatDoor

namespace Go.Proofs.YtgddkjhknlgbbaaGreatDoor
set_option linter.unusedVariables false
set_option linter.unusedSimpArgs false
open Go.RowKit Go.Maps

/-- append onto a slice of the call's own, with one limb more: where it does not lie in the old row, the old row is as it was. -/
theorem run_append_sharp {P : Program} (w : World) (base : Nat) (t ty e : TypeId) (i : TypeInfo) (z : Value) (size bytes : Nat) (ht : P.underlying t = some (.slice e)) (hi : P.info? e = some i) (hz : i.zero = some z)
    (hsize : i.size = size) (hby : i.bytes = bytes) (hzs : z.cells.size = size) (hsz : 0 < size)
    (v : Value) (n : Nat) (xs : List Value) (hown : w.ownsRow base e size v n xs)
    (a : Addr) (m c : Nat) (news : List Value) (hl : news.length = m * size) (hnews : ∀ j u, news[j]? = some u → w.cell? (a.add j) = some u) (h1 : ∀ u ∈ news, u.oneCell' = true)
    (h63 : n + m ≤ maxLen) (hbytes : (n + m) * bytes ≤ 140737488355328) (hbase : base ≤ w.heap.size) (hm : 0 < m) :
    ∃ v' w', (Builtin.append_ #[t, t] ty #[v, .slice (some a) m c]).run P w = .ok v' w' ∧ w'.ownsRow base e size v' (n + m) (xs ++ news) ∧ w.grownBy w' v.ownBlock ∧
      (v'.ownBlock = v.ownBlock ∨ w.grownBy w' none ∧ v'.ownBlock = some w.heap.size) := by
  obtain ⟨v', w', hr, h2, h3, h4, h5⟩ := run_append_own_at (P := P) w base t ty e i z size bytes ht hi hz hsize hby hzs hsz v n xs hown a m c news hl hnews h1 h63 hbytes hbase
  refine ⟨v', w', hr, h2, h3, ?_⟩
  subst hsize
  subst hby
  have hsmall : n + m ≤ 9223372036854775807 := by simp only [maxLen] at h63; omega
  rcases hown.2 with ⟨rfl, rfl⟩ | ⟨g, cap, cur, rfl, hbg, hg, hnc, hcm, hcs, htake⟩
  · rcases h5 with h5 | h5
    · exact .inl h5
    · exact .inr ⟨h3, h5⟩
  · by_cases hroom : n + m ≤ cap
    · have hfit : n * i.size + news.length ≤ cur.size := by rw [hl, hcs, ← Nat.add_mul]; exact Nat.mul_le_mul_right _ hroom
      have hr2 := run_append_room (P := P) w t ty e i ht hi g n cap cur hg a m c news hl hnews h1 hroom hfit
      rw [hr2] at hr
      injection hr with hv hw
      rw [← hv]
      exact .inl rfl
    · have holds : ∀ j u, xs[j]? = some u → w.cell? ((⟨g, 0, none⟩ : Addr).add j) = some u := hown.cells (g := g) rfl
      have hr2 := run_append_grow (P := P) w t ty e i z ht hi hz ⟨g, 0, none⟩ n cap xs hown.1 holds a m c news hl hnews (by omega) (by omega) (growslice_fits (by omega) hbytes)
      rw [hr2] at hr
      injection hr with hv hw
      refine .inr ⟨?_, by rw [← hv]; rfl⟩
      rw [← hw]
      exact ⟨rfl, rfl, rfl, by simp, fun k hk _ => Below.heap_alloc w.drew _ k hk⟩

/-- The same, for the walk: one element more. -/
theorem wpList_append_sharp {P : Program} (w : World) {ops : Array Oper} {rest : List Oper} {o : Oper} {a : Act} {Q : Exit → Act → World → Prop} (hgd : o.guard = none) (s x : Operand) (t : TypeId)
    (ho : o.op = .call { callee := .builtin .append, args := #[s, x], argTypes := #[t, t] })
    (base : Nat) (e : TypeId) (i : TypeInfo) (z : Value) (size bytes : Nat) (ht : P.underlying t = some (.slice e)) (hi : P.info? e = some i) (hz : i.zero = some z)
    (hsize : i.size = size) (hby : i.bytes = bytes) (hzs : z.cells.size = size) (hsz : 0 < size)
    (v : Value) (n : Nat) (xs : List Value) (hs : a.eval s = v) (hown : w.ownsRow base e size v n xs)
    (ad : Addr) (c : Nat) (news : List Value) (hx : a.eval x = .slice (some ad) 1 c) (hl : news.length = 1 * size) (hnews : ∀ j u, news[j]? = some u → w.cell? (ad.add j) = some u) (h1 : ∀ u ∈ news, u.oneCell' = true)
    (h63 : n + 1 ≤ maxLen) (hbytes : (n + 1) * bytes ≤ 140737488355328) (hbase : base ≤ w.heap.size)
    (h : ∀ v' w', w'.ownsRow base e size v' (n + 1) (xs ++ news) → w.grownBy w' v.ownBlock → (v'.ownBlock = v.ownBlock ∨ w.grownBy w' none ∧ v'.ownBlock = some w.heap.size) → wpList P ops Q rest (a.put o.dst v') w') :
    wpList P ops Q (o :: rest) a w := by
  refine wpList_plain hgd fun K hK => ?_
  obtain ⟨v', w', hr, h2, h3, h4⟩ := run_append_sharp (P := P) w base t o.type e i z size bytes ht hi hz hsize hby hzs hsz v n xs hown ad 1 c news hl hnews h1 h63 hbytes hbase (by omega)
  unfold Oper.wp execOp
  simp only [ho, resolve, invoke, builtin, Sem.run_bind, Sem.run_pure, Result.andThen_ok, List.map_toArray, List.map_cons, List.map_nil, hs, hx, hr]
  exact hK _ _ (h v' w' h2 h3 h4)

theorem Tryz.info73 : (Tryz.prog.info? 73).map (fun i => (i.zero, i.size, i.bytes)) = some (some (.slice none 0 0), 1, 24) := by kernel_rfl
theorem Tryz.info59 : (Tryz.prog.info? 59).map (fun i => (i.zero, i.size, i.bytes)) = some (some (.pointer none), 1, 8) := by kernel_rfl
theorem Tryz.info43 : (Tryz.prog.info? 43).map (fun i => (i.zero, i.size, i.bytes)) = some (some (.agg #[.pointer none, .pointer none]), 2, 16) := by kernel_rfl

def ptrs (hs : List Nat) : List Value := hs.map fun h => .pointer (some ⟨h, 0, none⟩)

/-- The law's own books: the world's struct, the list of holds. -/
structure Spine (W : World) (wb : Nat) (pv hv : Value) (hs : List Nat) : Prop where
  box : W.heap[wb]? = some (.cells #[pv, hv] 29 (0, 0))
  own : ∃ base, W.ownsRow base 59 1 hv hs.length (ptrs hs)

set_option maxRecDepth 100000 in
theorem mark_any (wb : Nat) (pv hv : Value) (hs : List Nat) (w : World) (h : Spine w wb pv hv hs) (hl : hs.length ≤ 1000000000000) :
    Calls Tryz.prog 40 #[.pointer (some ⟨wb, 0, none⟩)] w fun e w' => e = .returned (.int .i64 (-1000000 - hs.length)) ∧ w' = w := by
  have c1 : w.cell? ⟨wb, 1, none⟩ = some hv := cell_of_heap h.box 1
  obtain ⟨base, ho⟩ := h.own
  obtain ⟨p, c, rfl, _⟩ := own_form ho
  clear h ho
  go_enter Tryz.func40, Tryz.ntmps40
  go_wp2
  go_ret
  exact ⟨by simp, rfl⟩

end Go.Proofs.YtgddkjhknlgbbaaGreatDoor

namespace Go.Proofs.YtgddkjhknlgbbaaGreatDoor
set_option linter.unusedVariables false
set_option linter.unusedSimpArgs false
open Go.RowKit Go.Maps

/-- A row of cells that is the pattern, n times. -/
def Pat (xs : List Value) (n size : Nat) (pat : List Value) : Prop := ∀ i j, i < n → j < size → xs[i * size + j]? = pat[j]?

theorem Pat.snoc {xs : List Value} {n size : Nat} {pat : List Value} (h : Pat xs n size pat) (hl : xs.length = n * size) : Pat (xs ++ pat) (n + 1) size pat := by
  intro i j hi hj
  by_cases e : i < n
  · have h1 : i * size + j < xs.length := by
      rw [hl]
      have : (i + 1) * size ≤ n * size := Nat.mul_le_mul_right _ e
      rw [Nat.add_mul] at this
      omega
    rw [List.getElem?_append_left h1]
    exact h i j e hj
  · have e' : i = n := by omega
    subst e'
    rw [List.getElem?_append_right (by omega), hl, Nat.add_sub_cancel_left]

/-- Every place of the slice reads as the pattern, in blocks of type t that are T's. -/
def MarkB (T : Nat → Prop) (W : World) (t : TypeId) (size : Nat) (pat : List Value) (u : Value) (bd : Nat) : Prop :=
  ∃ p nu cap, u = .slice p nu cap ∧ nu ≤ bd ∧ ∀ i, i < nu → ∃ b cur, p = some ⟨b, 0, none⟩ ∧ T b ∧ W.heap[b]? = some (Obj.cells cur t (0, 0)) ∧ ∀ j, j < size → cur[i * size + j]? = pat[j]?

theorem MarkB.marks {T : Nat → Prop} {W : World} {t : TypeId} {size : Nat} {pat : List Value} {u : Value} {bd : Nat} (h : MarkB T W t size pat u bd) (hb : bd ≤ 1000000000) : Marks T W u size pat := by
  obtain ⟨p, nu, cap, h1, h2, h3⟩ := h
  refine ⟨p, nu, cap, h1, by omega, fun i hi => ?_⟩
  obtain ⟨b, cur, h4, h5, h6, h7⟩ := h3 i hi
  exact ⟨b, h4, h5, fun j hj => (cell_of_heap h6 _).trans (h7 j hj)⟩

theorem MarkB.of_own {T : Nat → Prop} {W : World} {t : TypeId} {size : Nat} {pat : List Value} {v : Value} {n base : Nat} {xs : List Value} (h : W.ownsRow base t size v n xs) (hp : Pat xs n size pat) (hT : ∀ g, v.ownBlock = some g → T g) : MarkB T W t size pat v n := by
  rcases h.2 with ⟨rfl, rfl⟩ | ⟨g, cap, cur, rfl, _, hg, _, _, _, htake⟩
  · exact ⟨none, 0, 0, rfl, Nat.le_refl _, fun i hi => absurd hi (Nat.not_lt_zero _)⟩
  · refine ⟨_, n, cap, rfl, Nat.le_refl _, fun i hi => ⟨g, cur, rfl, hT g rfl, hg, fun j hj => ?_⟩⟩
    have h1 : i * size + j < n * size := by
      have : (i + 1) * size ≤ n * size := Nat.mul_le_mul_right _ hi
      rw [Nat.add_mul] at this
      omega
    have h2 := hp i j hi hj
    rw [← htake, List.getElem?_take, if_pos h1] at h2
    simpa using h2

theorem MarkB.imp {T T' : Nat → Prop} {W : World} {t : TypeId} {size : Nat} {pat : List Value} {u : Value} {bd bd' : Nat} (h : MarkB T W t size pat u bd) (hT : ∀ b, T b → T' b) (hb : bd ≤ bd') : MarkB T' W t size pat u bd' := by
  obtain ⟨p, nu, cap, h1, h2, h3⟩ := h
  exact ⟨p, nu, cap, h1, by omega, fun i hi => by obtain ⟨b, cur, h4, h5, h6⟩ := h3 i hi; exact ⟨b, cur, h4, hT b h5, h6⟩⟩

/-- Kept while no block of its type turns. -/
theorem MarkB.grown {T : Nat → Prop} {W W' : World} {t : TypeId} {size : Nat} {pat : List Value} {u : Value} {bd : Nat} (h : MarkB T W t size pat u bd) {row : Option Nat} (hg : W.grownBy W' row) (ht : ∀ g cur, row = some g → T g → W.heap[g]? ≠ some (Obj.cells cur t (0, 0))) : MarkB T W' t size pat u bd := by
  obtain ⟨p, nu, cap, h1, h2, h3⟩ := h
  refine ⟨p, nu, cap, h1, h2, fun i hi => ?_⟩
  obtain ⟨b, cur, h4, h5, h6, h7⟩ := h3 i hi
  exact ⟨b, cur, h4, h5, (hg.block b (heap_lt h6) (fun e => ht b cur e.symm h5 h6)).trans h6, h7⟩

/-- Kept while the list itself grows by the pattern. -/
theorem MarkB.append {T : Nat → Prop} {W W' : World} {t : TypeId} {size : Nat} {pat : List Value} {u v v' : Value} {n base base' : Nat} {xs xs' : List Value} (h : MarkB T W t size pat u n) (hv : W.ownsRow base t size v n xs) (hv' : W'.ownsRow base' t size v' (n + 1) xs') (hp : Pat xs' (n + 1) size pat)
    (hg : W.grownBy W' v.ownBlock) (hs : v'.ownBlock = v.ownBlock ∨ W.grownBy W' none) : MarkB T W' t size pat u (n + 1) := by
  rcases hs with hs | hs
  · obtain ⟨p, nu, cap, h1, h2, h3⟩ := h
    refine ⟨p, nu, cap, h1, by omega, fun i hi => ?_⟩
    obtain ⟨b, cur, h4, h5, h6, h7⟩ := h3 i hi
    by_cases e : v.ownBlock = some b
    · rw [e] at hs
      rcases hv'.2 with ⟨rfl, _⟩ | ⟨g, cap', cur', rfl, _, hg', _, _, _, htake⟩
      · cases hs
      · cases hs
        refine ⟨g, cur', h4, h5, hg', fun j hj => ?_⟩
        have h8 : i * size + j < (n + 1) * size := by
          have : (i + 1) * size ≤ (n + 1) * size := Nat.mul_le_mul_right _ (by omega)
          rw [Nat.add_mul] at this
          omega
        have h9 := hp i j (by omega) hj
        rw [← htake, List.getElem?_take, if_pos h8] at h9
        simpa using h9
    · exact ⟨b, cur, h4, h5, (hg.block b (heap_lt h6) (fun e' => e e'.symm)).trans h6, h7⟩
  · exact (h.grown hs (fun g cur e => by cases e)).imp (fun b hb => hb) (by omega)

theorem take_set_pat {ys : List Value} {k : Nat} {x : Value} (h : k < ys.length) : (ys.set k x).take (k + 1) = ys.take k ++ [x] := by
  rw [List.take_succ_eq_append_getElem (by simpa using h)]
  simp [List.take_set_of_le]

theorem replicate_pat1 (n : Nat) (x : Value) : Pat (List.replicate n x) n 1 [x] := by
  intro i j hi hj
  have : j = 0 := by omega
  subst this
  simp [hi]

/-- How keepNumbers and its like leave the law's books. -/
structure KeptBy (w w' : World) (wb : Nat) (pv hv : Value) (hs : List Nat) (l : Value) (hv' : Value) (h : Nat) : Prop where
  spine : Spine w' wb pv hv' (hs ++ [h])
  hold : HoldRep (fun b => (w.heap.size ≤ b ∨ l.ownBlock = some b) ∧ b ≠ wb ∧ hv'.ownBlock ≠ some b ∧ b < w'.heap.size) w' h
  mid : Mid (fun b => b = wb ∨ hv.ownBlock = some b ∨ l.ownBlock = some b) w w'
  hvb : hv'.ownBlock = hv.ownBlock ∨ ∀ g, hv'.ownBlock = some g → w.heap.size ≤ g
  hb : w.heap.size ≤ h

end Go.Proofs.YtgddkjhknlgbbaaGreatDoor
