/- What row of the reference of layer 7 returns. Condition: the numbers' cells are known. -/
import Derived.Test.YtepkihoakagidaaDoorG3
import Derived.Test.YtepkihoakagidaaDoorG1
import Derived.Deep.RegionHeld3
namespace Go.Proofs.YtepkihoakagidaaDoor
open Go.RowKit

theorem one_newR (W : World) (x : Value) (t : TypeId) : ∀ j u, ([x] : List Value)[j]? = some u → (W.alloc (.cells #[x] t)).cell? ((⟨W.heap.size, 0, none⟩ : Addr).add j) = some u := by
  intro j u hj
  match j with
  | 0 =>
    simp at hj
    rw [← hj, Addr.add_lit]
    simp [go_sem]
  | j + 1 => simp at hj
theorem row_someR {w : World} {base : Nat} {e : TypeId} {size : Nat} {v : Value} {n : Nat} {xs : List Value} (h : w.ownsRow base e size v n xs) (hn : 0 < n) : ∃ g cap, v = .slice (some ⟨g, 0, none⟩) n cap := by
  rcases h.2 with ⟨_, h2⟩ | ⟨g, cap, _, h1, _⟩
  · omega
  · exact ⟨g, cap, h1⟩
theorem row_form {w : World} {base : Nat} {e : TypeId} {size : Nat} {v : Value} {n : Nat} {xs : List Value} (h : w.ownsRow base e size v n xs) : ∃ ao cap, v = .slice ao n cap := by
  rcases h.2 with ⟨h1, h2⟩ | ⟨g, cap, _, h1, _⟩
  · exact ⟨none, 0, by rw [h1, h2]⟩
  · exact ⟨_, cap, h1⟩
theorem refElement_in (s : List UInt8) (hs : s.length ≤ maxLen) (w : World) :
    Calls Tryd.prog 46 #[strV s] w fun e w' => ∃ u, e = .returned u ∧ StrsIn (StrB w') w' u (elS s) ∧ Below w.heap.size w w' := by
  refine (refElement_any s hs w).mono ?_
  rintro e w1 (⟨h1, rfl, h2⟩ | ⟨h1, rfl, h2⟩)
  · obtain ⟨h3, h4⟩ := element_in hs (.inl ⟨h1, rfl, h2⟩)
    exact ⟨_, rfl, h3, h4⟩
  · obtain ⟨h3, h4⟩ := element_in hs (.inr ⟨h1, rfl, h2⟩)
    exact ⟨_, rfl, h3, h4⟩

set_option maxRecDepth 100000 in
set_option maxHeartbeats 6400000 in
theorem refRow_any (tag : List UInt8) (v : Value) (l : List Int) (w : World) (h : NumsIn (Has_ w) w v l) (ha : l.all amB = true) (hl : l.length ≤ 100) :
    Calls Tryd.prog 45 #[strV tag, v] w fun e w' => ∃ u, e = .returned (.agg #[strV tag, u]) ∧ ElemsIn (NotSeg w') w' u (rowS tag l).els ∧ Below w.heap.size w w' := by
  obtain ⟨ao, cap, rfl, _, hc⟩ := h.form
  have hC := Lib.hid hc
  have hAm := Lib.hid (List.all_eq_true.1 ha)
  obtain ⟨i0, hi, hz0, hz1, hz2⟩ := info_parts info_strs
  have hS0 := Lib.hid (RowAt.start w tag)
  have hlb : l.length ≤ 9223372036854775807 := by omega
  clear h hc ha
  unfold strV at *
  go_enter Tryd.func45, Tryd.ntmps45
  go_wp2_with fail
  go_loopw [6] (fun vi wx => ∃ (i : Nat) (us : List Value) (vE : Value), vi = .int .i64 i ∧ i ≤ l.length ∧ Hid (RowAt w wx tag vE us ((l.take i).map fun n => elS (Lib.itoa n)))) (fun vi _ => l.length - (intOf vi).toNat)
  case atStart => exact ⟨0, [], _, by go_num, by omega, hS0⟩
  case round =>
    clear hS0
    obtain ⟨i, us, vE, rfl, hile, HA⟩ := hrel
    obtain ⟨ae, ca, rfl⟩ := row_form HA.out.row
    obtain ⟨⟨c0, f0⟩, ⟨c1, f1⟩, ⟨r0, g0⟩, r1, g1⟩ := HA.out.cells
    unfold strV at c0 r0
    by_cases hlt : i < l.length
    · have d1 : decide ((i : Int) < (l.length : Int)) = true := decide_eq_true (by omega)
      obtain ⟨x, hx⟩ : ∃ x, l[i]? = some x := ⟨_, List.getElem?_eq_getElem hlt⟩
      obtain ⟨a, rfl, cx0⟩ := hC.out i x hx
      have cx := (HA.out.below.cell (World.block_lt_of_cell? w _ cx0)).trans cx0
      have hxa := hAm.out x (List.mem_of_getElem? hx)
      have hit := itoa_len hxa
      unfold amB at hxa
      simp only [Bool.and_eq_true, decide_eq_true_eq] at hxa
      have HN := Lib.hid (fun W => refNumber_any x hxa.1 hxa.2 W)
      have HE := Lib.hid (fun W => refElement_in (Lib.itoa x) (by unfold maxLen; omega) W)
      have hLn : ((l.take i).map fun n => elS (Lib.itoa n)).length = i := by simp; omega
      have hsucc : ((l.take i).map fun n => elS (Lib.itoa n)) ++ [elS (Lib.itoa x)] = (l.take (i + 1)).map fun n => elS (Lib.itoa n) := by rw [List.take_add_one, hx]; simp
      have j1 : (0 : Int) ≤ (i : Int) := by omega
      have j2 : (i : Int) < (l.length : Int) := by omega
      clear r0 r1 g0 g1 c0 f0 hC hAm hxa hit
      go_wp2_with fail
      refine wp_region_noPanic ?_
      refine wp_region_held_drew (S := fun w' => w'.cell? (a.add i) = some (.int .i64 x)) (by kernel_rfl) cx (fun hHeld => ?_)
      have hb0 := (Below.refl wr.heap.size wr).drew
      clear c1 f1
      replace HA := Lib.hid (HA.out.later hb0)
      replace cx := (hb0.cell (World.block_lt_of_cell? _ _ cx)).trans cx
      obtain ⟨_, ⟨c1, f1⟩, _⟩ := HA.out.cells
      refine wpAnyH_take (i := 0) (v := ?_) rfl (by kernel_rfl) (by kernel_rfl) (by kernel_rfl) (fun _ _ _ h => h) (Or.inl ⟨by rfl, ?_⟩) (by assumption) ?_
      rotate_left
      · intro wS hSw
        go_simp <;> with_reducible rfl
      try simp only [Act.put, List.getElem_toArray, List.getElem_cons_zero, List.setIfInBounds_toArray, List.set_cons_zero, List.set_cons_succ]
      refine wpAnyH_take (i := 2) (v := ?_) rfl (by kernel_rfl) (by kernel_rfl) (by kernel_rfl) (fun _ _ _ h => h) (Or.inl ⟨by rfl, ?_⟩) (by assumption) ?_
      rotate_left
      · intro wS hSw
        go_simp <;> with_reducible rfl
      try simp only [Act.put, List.getElem_toArray, List.getElem_cons_succ, List.getElem_cons_zero, List.setIfInBounds_toArray, List.set_cons_zero, List.set_cons_succ]
      refine wpAnyH_take (i := 3) (v := ?_) rfl (by kernel_rfl) (by kernel_rfl) (by kernel_rfl) (fun _ _ _ h => h) (Or.inl ⟨by rfl, ?_⟩) (by assumption) ?_
      rotate_left
      · intro wS hSw
        go_simp <;> with_reducible rfl
      try simp only [Act.put, List.getElem_toArray, List.getElem_cons_succ, List.getElem_cons_zero, List.setIfInBounds_toArray, List.set_cons_zero, List.set_cons_succ]
      refine wpAnyH_take (i := 4) (v := ?_) rfl (by kernel_rfl) (by kernel_rfl) (by kernel_rfl) (fun _ _ _ h => h) (Or.inl ⟨by rfl, ?_⟩) (by assumption) ?_
      rotate_left
      · intro wS hSw
        go_simp <;> with_reducible rfl
      try simp only [Act.put, List.getElem_toArray, List.getElem_cons_succ, List.getElem_cons_zero, List.setIfInBounds_toArray, List.set_cons_zero, List.set_cons_succ]
      refine wpAnyH_take (i := 5) (v := ?_) rfl (by kernel_rfl) (by kernel_rfl) (by kernel_rfl) (fun _ _ _ h => h) (Or.inl ⟨by rfl, ?_⟩) (by assumption) ?_
      rotate_left
      · intro wS hSw
        go_simp <;> with_reducible rfl
      try simp only [Act.put, List.getElem_toArray, List.getElem_cons_succ, List.getElem_cons_zero, List.setIfInBounds_toArray, List.set_cons_zero, List.set_cons_succ]
      refine wpAnyH_ready (rs := [1, 6]) (by kernel_rfl) (by simp) ?_
      refine AllReadyH.cons rfl (fun K hK => ?_) (AllReadyH.cons rfl (fun K hK => ?_) AllReadyH.nil)
      · go_simp
        refine hK.out _ _ (cx) (fun hHeld => ?_)
        clear hK K
        try simp only [Act.put, List.getElem_toArray, List.getElem_cons_succ, List.getElem_cons_zero, List.setIfInBounds_toArray, List.set_cons_zero, List.set_cons_succ]
        refine wpAnyH_ready (rs := [6]) (by kernel_rfl) (by simp) ?_
        refine AllReadyH.cons rfl (fun K hK => ?_) AllReadyH.nil
        go_simp
        refine (HN.out _).mono ?_
        rintro e wA ⟨rfl, hbA⟩
        clear c1 f1
        replace HA := Lib.hid (HA.out.later hbA)
        replace cx := (hbA.cell (World.block_lt_of_cell? _ _ cx)).trans cx
        obtain ⟨_, ⟨c1, f1⟩, _⟩ := HA.out.cells
        refine hK.out _ _ (cx) (fun hHeld => ?_)
        clear hK K
        try simp only [Act.put, List.getElem_toArray, List.getElem_cons_succ, List.getElem_cons_zero, List.setIfInBounds_toArray, List.set_cons_zero, List.set_cons_succ]
        refine wpAnyH_ready (rs := [7]) (by kernel_rfl) (by simp) ?_
        refine AllReadyH.cons rfl (fun K hK => ?_) AllReadyH.nil
        go_simp
        refine (HE.out _).mono ?_
        rintro e wB ⟨ue, rfl, hst, hbB⟩
        clear c1 f1
        replace HA := Lib.hid (HA.out.later hbB)
        replace cx := (hbB.cell (World.block_lt_of_cell? _ _ cx)).trans cx
        obtain ⟨_, ⟨c1, f1⟩, _⟩ := HA.out.cells
        obtain ⟨oe, ce, rfl, _, _⟩ := hst.form
        refine hK.out _ _ (cx) (fun hHeld => ?_)
        clear hK K
        try simp only [Act.put, List.getElem_toArray, List.getElem_cons_succ, List.getElem_cons_zero, List.setIfInBounds_toArray, List.set_cons_zero, List.set_cons_succ]
        refine wpAnyH_ready (rs := [8]) (by kernel_rfl) (by simp) ?_
        refine AllReadyH.cons rfl (fun K hK => ?_) AllReadyH.nil
        have hbC := (Below.refl wB.heap.size wB).alloc (Nat.le_refl _) (.cells #[.slice oe (elS (Lib.itoa x)).length ce] 50)
        replace hst := hst.keep fun _ hb1 => hb1.later hbC
        clear c1 f1
        replace HA := Lib.hid (HA.out.later hbC)
        replace cx := (hbC.cell (World.block_lt_of_cell? _ _ cx)).trans cx
        obtain ⟨_, ⟨c1, f1⟩, _⟩ := HA.out.cells
        go_simp
        refine hK.out _ _ (cx) (fun hHeld => ?_)
        clear hK K
        try simp only [Act.put, List.getElem_toArray, List.getElem_cons_succ, List.getElem_cons_zero, List.setIfInBounds_toArray, List.set_cons_zero, List.set_cons_succ]
        refine wpAnyH_ready (rs := [9]) (by kernel_rfl) (by simp) ?_
        refine AllReadyH.cons rfl (fun K hK => ?_) AllReadyH.nil
        refine step_append_own rfl (.tmp 16) (.tmp 23) 47 rfl (w.heap.size + 1) 50 i0 _ 1 24 Tryd.underlying47 hi hz0 hz1 hz2 rfl (by omega) (.slice ae ((l.take i).map fun n => elS (Lib.itoa n)).length ca) ((l.take i).map fun n => elS (Lib.itoa n)).length us (by rw [hLn]; rfl) HA.out.row (Nat.le_of_lt (Array.getElem?_eq_some_iff.1 HA.out.box).1) (some ⟨wB.heap.size, 0, none⟩) 1 1 [.slice oe (elS (Lib.itoa x)).length ce] rfl rfl (fun h => by cases h) (fun ad e => by cases e; exact one_newR wB _ _) (by intro u hu; simp at hu; rcases hu with rfl; rfl) (by rw [hLn]; unfold maxLen; omega) (by rw [hLn]; omega) ?_
        intro v1 w7 own1 grow1
        obtain ⟨k1, k2⟩ := HA.out.kept grow1
        have HP := Lib.hid (HA.out.push hst own1 grow1)
        have hb7 := below_grown HA.out.below grow1 (fun k hk => by have := (HA.out.row.lt k hk).1; omega)
        obtain ⟨g7, c7, rfl⟩ := row_someR own1 (by omega)
        have x7 := (hb7.cell (World.block_lt_of_cell? w _ cx0)).trans cx0
        have x8 := (HP.out.below.cell (World.block_lt_of_cell? w _ cx0)).trans cx0
        rw [hLn] at HP x8
        clear HA hst own1 grow1 hb7 c1 f1 cx
        refine hK.out _ _ (x7) (fun hHeld => ?_)
        clear hK K
        try simp only [Act.put, List.getElem_toArray, List.getElem_cons_succ, List.getElem_cons_zero, List.setIfInBounds_toArray, List.set_cons_zero, List.set_cons_succ]
        refine wpAnyH_take (i := 10) (v := ?_) rfl (by kernel_rfl) (by kernel_rfl) (by kernel_rfl) (fun _ _ _ h => h) (Or.inl ⟨by rfl, ?_⟩) (by assumption) ?_
        rotate_left
        · intro wS hSw
          go_simp <;> with_reducible rfl
        try simp only [Act.put, List.getElem_toArray, List.getElem_cons_succ, List.getElem_cons_zero, List.setIfInBounds_toArray, List.set_cons_zero, List.set_cons_succ]
        refine wpAnyH_ready (rs := [11]) (by kernel_rfl) (by simp) ?_
        refine AllReadyH.cons rfl (fun K hK => ?_) AllReadyH.nil
        go_simp
        refine hK.out _ _ x8 (fun hHeld => ?_)
        clear hK K hHeld
        try simp only [Act.put, List.getElem_toArray, List.getElem_cons_succ, List.getElem_cons_zero, List.setIfInBounds_toArray, List.set_cons_zero, List.set_cons_succ]
        refine wpAnyH_done (by kernel_rfl) ?_ _
        refine NoPanic.normal ?_
        have HQ := Lib.hid (show RowAt w _ tag _ _ ((l.take (i + 1)).map fun n => elS (Lib.itoa n)) from hsucc ▸ HP.out)
        clear HP k1 k2 x7 x8
        go_wp2_with fail
        go_roundw
        case rel => exact ⟨i + 1, _, _, by go_num, by omega, HQ⟩
        case measure => simp [intOf]; omega
      · go_simp
        refine (HN.out _).mono ?_
        rintro e wA ⟨rfl, hbA⟩
        clear c1 f1
        replace HA := Lib.hid (HA.out.later hbA)
        replace cx := (hbA.cell (World.block_lt_of_cell? _ _ cx)).trans cx
        obtain ⟨_, ⟨c1, f1⟩, _⟩ := HA.out.cells
        refine hK.out _ _ (cx) (fun hHeld => ?_)
        clear hK K
        try simp only [Act.put, List.getElem_toArray, List.getElem_cons_succ, List.getElem_cons_zero, List.setIfInBounds_toArray, List.set_cons_zero, List.set_cons_succ]
        refine wpAnyH_ready (rs := [1, 7]) (by kernel_rfl) (by simp) ?_
        refine AllReadyH.cons rfl (fun K hK => ?_) (AllReadyH.cons rfl (fun K hK => ?_) AllReadyH.nil)
        · go_simp
          refine hK.out _ _ (cx) (fun hHeld => ?_)
          clear hK K
          try simp only [Act.put, List.getElem_toArray, List.getElem_cons_succ, List.getElem_cons_zero, List.setIfInBounds_toArray, List.set_cons_zero, List.set_cons_succ]
          refine wpAnyH_ready (rs := [7]) (by kernel_rfl) (by simp) ?_
          refine AllReadyH.cons rfl (fun K hK => ?_) AllReadyH.nil
          go_simp
          refine (HE.out _).mono ?_
          rintro e wB ⟨ue, rfl, hst, hbB⟩
          clear c1 f1
          replace HA := Lib.hid (HA.out.later hbB)
          replace cx := (hbB.cell (World.block_lt_of_cell? _ _ cx)).trans cx
          obtain ⟨_, ⟨c1, f1⟩, _⟩ := HA.out.cells
          obtain ⟨oe, ce, rfl, _, _⟩ := hst.form
          refine hK.out _ _ (cx) (fun hHeld => ?_)
          clear hK K
          try simp only [Act.put, List.getElem_toArray, List.getElem_cons_succ, List.getElem_cons_zero, List.setIfInBounds_toArray, List.set_cons_zero, List.set_cons_succ]
          refine wpAnyH_ready (rs := [8]) (by kernel_rfl) (by simp) ?_
          refine AllReadyH.cons rfl (fun K hK => ?_) AllReadyH.nil
          have hbC := (Below.refl wB.heap.size wB).alloc (Nat.le_refl _) (.cells #[.slice oe (elS (Lib.itoa x)).length ce] 50)
          replace hst := hst.keep fun _ hb1 => hb1.later hbC
          clear c1 f1
          replace HA := Lib.hid (HA.out.later hbC)
          replace cx := (hbC.cell (World.block_lt_of_cell? _ _ cx)).trans cx
          obtain ⟨_, ⟨c1, f1⟩, _⟩ := HA.out.cells
          go_simp
          refine hK.out _ _ (cx) (fun hHeld => ?_)
          clear hK K
          try simp only [Act.put, List.getElem_toArray, List.getElem_cons_succ, List.getElem_cons_zero, List.setIfInBounds_toArray, List.set_cons_zero, List.set_cons_succ]
          refine wpAnyH_ready (rs := [9]) (by kernel_rfl) (by simp) ?_
          refine AllReadyH.cons rfl (fun K hK => ?_) AllReadyH.nil
          refine step_append_own rfl (.tmp 16) (.tmp 23) 47 rfl (w.heap.size + 1) 50 i0 _ 1 24 Tryd.underlying47 hi hz0 hz1 hz2 rfl (by omega) (.slice ae ((l.take i).map fun n => elS (Lib.itoa n)).length ca) ((l.take i).map fun n => elS (Lib.itoa n)).length us (by rw [hLn]; rfl) HA.out.row (Nat.le_of_lt (Array.getElem?_eq_some_iff.1 HA.out.box).1) (some ⟨wB.heap.size, 0, none⟩) 1 1 [.slice oe (elS (Lib.itoa x)).length ce] rfl rfl (fun h => by cases h) (fun ad e => by cases e; exact one_newR wB _ _) (by intro u hu; simp at hu; rcases hu with rfl; rfl) (by rw [hLn]; unfold maxLen; omega) (by rw [hLn]; omega) ?_
          intro v1 w7 own1 grow1
          obtain ⟨k1, k2⟩ := HA.out.kept grow1
          have HP := Lib.hid (HA.out.push hst own1 grow1)
          have hb7 := below_grown HA.out.below grow1 (fun k hk => by have := (HA.out.row.lt k hk).1; omega)
          obtain ⟨g7, c7, rfl⟩ := row_someR own1 (by omega)
          have x7 := (hb7.cell (World.block_lt_of_cell? w _ cx0)).trans cx0
          have x8 := (HP.out.below.cell (World.block_lt_of_cell? w _ cx0)).trans cx0
          rw [hLn] at HP x8
          clear HA hst own1 grow1 hb7 c1 f1 cx
          refine hK.out _ _ (x7) (fun hHeld => ?_)
          clear hK K
          try simp only [Act.put, List.getElem_toArray, List.getElem_cons_succ, List.getElem_cons_zero, List.setIfInBounds_toArray, List.set_cons_zero, List.set_cons_succ]
          refine wpAnyH_take (i := 10) (v := ?_) rfl (by kernel_rfl) (by kernel_rfl) (by kernel_rfl) (fun _ _ _ h => h) (Or.inl ⟨by rfl, ?_⟩) (by assumption) ?_
          rotate_left
          · intro wS hSw
            go_simp <;> with_reducible rfl
          try simp only [Act.put, List.getElem_toArray, List.getElem_cons_succ, List.getElem_cons_zero, List.setIfInBounds_toArray, List.set_cons_zero, List.set_cons_succ]
          refine wpAnyH_ready (rs := [11]) (by kernel_rfl) (by simp) ?_
          refine AllReadyH.cons rfl (fun K hK => ?_) AllReadyH.nil
          go_simp
          refine hK.out _ _ x8 (fun hHeld => ?_)
          clear hK K hHeld
          try simp only [Act.put, List.getElem_toArray, List.getElem_cons_succ, List.getElem_cons_zero, List.setIfInBounds_toArray, List.set_cons_zero, List.set_cons_succ]
          refine wpAnyH_done (by kernel_rfl) ?_ _
          refine NoPanic.normal ?_
          have HQ := Lib.hid (show RowAt w _ tag _ _ ((l.take (i + 1)).map fun n => elS (Lib.itoa n)) from hsucc ▸ HP.out)
          clear HP k1 k2 x7 x8
          go_wp2_with fail
          go_roundw
          case rel => exact ⟨i + 1, _, _, by go_num, by omega, HQ⟩
          case measure => simp [intOf]; omega
        · go_simp
          refine (HE.out _).mono ?_
          rintro e wB ⟨ue, rfl, hst, hbB⟩
          clear c1 f1
          replace HA := Lib.hid (HA.out.later hbB)
          replace cx := (hbB.cell (World.block_lt_of_cell? _ _ cx)).trans cx
          obtain ⟨_, ⟨c1, f1⟩, _⟩ := HA.out.cells
          obtain ⟨oe, ce, rfl, _, _⟩ := hst.form
          refine hK.out _ _ (cx) (fun hHeld => ?_)
          clear hK K
          try simp only [Act.put, List.getElem_toArray, List.getElem_cons_succ, List.getElem_cons_zero, List.setIfInBounds_toArray, List.set_cons_zero, List.set_cons_succ]
          refine wpAnyH_ready (rs := [1, 8]) (by kernel_rfl) (by simp) ?_
          refine AllReadyH.cons rfl (fun K hK => ?_) (AllReadyH.cons rfl (fun K hK => ?_) AllReadyH.nil)
          · go_simp
            refine hK.out _ _ (cx) (fun hHeld => ?_)
            clear hK K
            try simp only [Act.put, List.getElem_toArray, List.getElem_cons_succ, List.getElem_cons_zero, List.setIfInBounds_toArray, List.set_cons_zero, List.set_cons_succ]
            refine wpAnyH_ready (rs := [8]) (by kernel_rfl) (by simp) ?_
            refine AllReadyH.cons rfl (fun K hK => ?_) AllReadyH.nil
            have hbC := (Below.refl wB.heap.size wB).alloc (Nat.le_refl _) (.cells #[.slice oe (elS (Lib.itoa x)).length ce] 50)
            replace hst := hst.keep fun _ hb1 => hb1.later hbC
            clear c1 f1
            replace HA := Lib.hid (HA.out.later hbC)
            replace cx := (hbC.cell (World.block_lt_of_cell? _ _ cx)).trans cx
            obtain ⟨_, ⟨c1, f1⟩, _⟩ := HA.out.cells
            go_simp
            refine hK.out _ _ (cx) (fun hHeld => ?_)
            clear hK K
            try simp only [Act.put, List.getElem_toArray, List.getElem_cons_succ, List.getElem_cons_zero, List.setIfInBounds_toArray, List.set_cons_zero, List.set_cons_succ]
            refine wpAnyH_ready (rs := [9]) (by kernel_rfl) (by simp) ?_
            refine AllReadyH.cons rfl (fun K hK => ?_) AllReadyH.nil
            refine step_append_own rfl (.tmp 16) (.tmp 23) 47 rfl (w.heap.size + 1) 50 i0 _ 1 24 Tryd.underlying47 hi hz0 hz1 hz2 rfl (by omega) (.slice ae ((l.take i).map fun n => elS (Lib.itoa n)).length ca) ((l.take i).map fun n => elS (Lib.itoa n)).length us (by rw [hLn]; rfl) HA.out.row (Nat.le_of_lt (Array.getElem?_eq_some_iff.1 HA.out.box).1) (some ⟨wB.heap.size, 0, none⟩) 1 1 [.slice oe (elS (Lib.itoa x)).length ce] rfl rfl (fun h => by cases h) (fun ad e => by cases e; exact one_newR wB _ _) (by intro u hu; simp at hu; rcases hu with rfl; rfl) (by rw [hLn]; unfold maxLen; omega) (by rw [hLn]; omega) ?_
            intro v1 w7 own1 grow1
            obtain ⟨k1, k2⟩ := HA.out.kept grow1
            have HP := Lib.hid (HA.out.push hst own1 grow1)
            have hb7 := below_grown HA.out.below grow1 (fun k hk => by have := (HA.out.row.lt k hk).1; omega)
            obtain ⟨g7, c7, rfl⟩ := row_someR own1 (by omega)
            have x7 := (hb7.cell (World.block_lt_of_cell? w _ cx0)).trans cx0
            have x8 := (HP.out.below.cell (World.block_lt_of_cell? w _ cx0)).trans cx0
            rw [hLn] at HP x8
            clear HA hst own1 grow1 hb7 c1 f1 cx
            refine hK.out _ _ (x7) (fun hHeld => ?_)
            clear hK K
            try simp only [Act.put, List.getElem_toArray, List.getElem_cons_succ, List.getElem_cons_zero, List.setIfInBounds_toArray, List.set_cons_zero, List.set_cons_succ]
            refine wpAnyH_take (i := 10) (v := ?_) rfl (by kernel_rfl) (by kernel_rfl) (by kernel_rfl) (fun _ _ _ h => h) (Or.inl ⟨by rfl, ?_⟩) (by assumption) ?_
            rotate_left
            · intro wS hSw
              go_simp <;> with_reducible rfl
            try simp only [Act.put, List.getElem_toArray, List.getElem_cons_succ, List.getElem_cons_zero, List.setIfInBounds_toArray, List.set_cons_zero, List.set_cons_succ]
            refine wpAnyH_ready (rs := [11]) (by kernel_rfl) (by simp) ?_
            refine AllReadyH.cons rfl (fun K hK => ?_) AllReadyH.nil
            go_simp
            refine hK.out _ _ x8 (fun hHeld => ?_)
            clear hK K hHeld
            try simp only [Act.put, List.getElem_toArray, List.getElem_cons_succ, List.getElem_cons_zero, List.setIfInBounds_toArray, List.set_cons_zero, List.set_cons_succ]
            refine wpAnyH_done (by kernel_rfl) ?_ _
            refine NoPanic.normal ?_
            have HQ := Lib.hid (show RowAt w _ tag _ _ ((l.take (i + 1)).map fun n => elS (Lib.itoa n)) from hsucc ▸ HP.out)
            clear HP k1 k2 x7 x8
            go_wp2_with fail
            go_roundw
            case rel => exact ⟨i + 1, _, _, by go_num, by omega, HQ⟩
            case measure => simp [intOf]; omega
          · have hbC := (Below.refl wB.heap.size wB).alloc (Nat.le_refl _) (.cells #[.slice oe (elS (Lib.itoa x)).length ce] 50)
            replace hst := hst.keep fun _ hb1 => hb1.later hbC
            clear c1 f1
            replace HA := Lib.hid (HA.out.later hbC)
            replace cx := (hbC.cell (World.block_lt_of_cell? _ _ cx)).trans cx
            obtain ⟨_, ⟨c1, f1⟩, _⟩ := HA.out.cells
            go_simp
            refine hK.out _ _ (cx) (fun hHeld => ?_)
            clear hK K
            try simp only [Act.put, List.getElem_toArray, List.getElem_cons_succ, List.getElem_cons_zero, List.setIfInBounds_toArray, List.set_cons_zero, List.set_cons_succ]
            refine wpAnyH_ready (rs := [1]) (by kernel_rfl) (by simp) ?_
            refine AllReadyH.cons rfl (fun K hK => ?_) AllReadyH.nil
            go_simp
            refine hK.out _ _ (cx) (fun hHeld => ?_)
            clear hK K
            try simp only [Act.put, List.getElem_toArray, List.getElem_cons_succ, List.getElem_cons_zero, List.setIfInBounds_toArray, List.set_cons_zero, List.set_cons_succ]
            refine wpAnyH_ready (rs := [9]) (by kernel_rfl) (by simp) ?_
            refine AllReadyH.cons rfl (fun K hK => ?_) AllReadyH.nil
            refine step_append_own rfl (.tmp 16) (.tmp 23) 47 rfl (w.heap.size + 1) 50 i0 _ 1 24 Tryd.underlying47 hi hz0 hz1 hz2 rfl (by omega) (.slice ae ((l.take i).map fun n => elS (Lib.itoa n)).length ca) ((l.take i).map fun n => elS (Lib.itoa n)).length us (by rw [hLn]; rfl) HA.out.row (Nat.le_of_lt (Array.getElem?_eq_some_iff.1 HA.out.box).1) (some ⟨wB.heap.size, 0, none⟩) 1 1 [.slice oe (elS (Lib.itoa x)).length ce] rfl rfl (fun h => by cases h) (fun ad e => by cases e; exact one_newR wB _ _) (by intro u hu; simp at hu; rcases hu with rfl; rfl) (by rw [hLn]; unfold maxLen; omega) (by rw [hLn]; omega) ?_
            intro v1 w7 own1 grow1
            obtain ⟨k1, k2⟩ := HA.out.kept grow1
            have HP := Lib.hid (HA.out.push hst own1 grow1)
            have hb7 := below_grown HA.out.below grow1 (fun k hk => by have := (HA.out.row.lt k hk).1; omega)
            obtain ⟨g7, c7, rfl⟩ := row_someR own1 (by omega)
            have x7 := (hb7.cell (World.block_lt_of_cell? w _ cx0)).trans cx0
            have x8 := (HP.out.below.cell (World.block_lt_of_cell? w _ cx0)).trans cx0
            rw [hLn] at HP x8
            clear HA hst own1 grow1 hb7 c1 f1 cx
            refine hK.out _ _ (x7) (fun hHeld => ?_)
            clear hK K
            try simp only [Act.put, List.getElem_toArray, List.getElem_cons_succ, List.getElem_cons_zero, List.setIfInBounds_toArray, List.set_cons_zero, List.set_cons_succ]
            refine wpAnyH_take (i := 10) (v := ?_) rfl (by kernel_rfl) (by kernel_rfl) (by kernel_rfl) (fun _ _ _ h => h) (Or.inl ⟨by rfl, ?_⟩) (by assumption) ?_
            rotate_left
            · intro wS hSw
              go_simp <;> with_reducible rfl
            try simp only [Act.put, List.getElem_toArray, List.getElem_cons_succ, List.getElem_cons_zero, List.setIfInBounds_toArray, List.set_cons_zero, List.set_cons_succ]
            refine wpAnyH_ready (rs := [11]) (by kernel_rfl) (by simp) ?_
            refine AllReadyH.cons rfl (fun K hK => ?_) AllReadyH.nil
            go_simp
            refine hK.out _ _ x8 (fun hHeld => ?_)
            clear hK K hHeld
            try simp only [Act.put, List.getElem_toArray, List.getElem_cons_succ, List.getElem_cons_zero, List.setIfInBounds_toArray, List.set_cons_zero, List.set_cons_succ]
            refine wpAnyH_done (by kernel_rfl) ?_ _
            refine NoPanic.normal ?_
            have HQ := Lib.hid (show RowAt w _ tag _ _ ((l.take (i + 1)).map fun n => elS (Lib.itoa n)) from hsucc ▸ HP.out)
            clear HP k1 k2 x7 x8
            go_wp2_with fail
            go_roundw
            case rel => exact ⟨i + 1, _, _, by go_num, by omega, HQ⟩
            case measure => simp [intOf]; omega
    · obtain rfl : i = l.length := by omega
      have d1 : decide ((l.length : Int) < (l.length : Int)) = false := decide_eq_false (by omega)
      have e1 : ((l.take l.length).map fun n => elS (Lib.itoa n)) = (rowS tag l).els := by rw [List.take_length]; rfl
      rw [e1] at HA c1
      have hEl := Lib.hid HA.out.els
      have hAb := Lib.hid HA.out
      clear HA hC hAm
      obtain ⟨q0, q1⟩ := setTwo r0 r1 (.string ⟨tag.toArray⟩) (.slice ae (rowS tag l).els.length ca)
      have hfin := Lib.hid (hEl.out.setTwo hAb.out.res (.string ⟨tag.toArray⟩) (.slice ae (rowS tag l).els.length ca))
      have hbel : Below w.heap.size w ((wr.setCell ⟨w.heap.size, 0, none⟩ (.string ⟨tag.toArray⟩)).setCell ⟨w.heap.size, 1, none⟩ (.slice ae (rowS tag l).els.length ca)) := (hAb.out.below.setCell (Nat.le_refl _) _).setCell (Nat.le_refl _) _
      have hB := Lib.hid hbel
      clear hbel
      go_wp2_with fail
      simp [bodyPost, results, Tryd.results45, go_sem, q0, q1]
      first | exact ⟨_, ⟨rfl, rfl⟩, hfin.out, hB.out⟩ | exact ⟨hfin.out, hB.out⟩ | exact ⟨_, rfl, hfin.out, hB.out⟩
end Go.Proofs.YtepkihoakagidaaDoor
