/- The law CurrencyValidate, walked: it returns true at every input. No condition. -/
import Derived.Test.YtjjidbnjkhdkaaaCurAtRawWalk
import Derived.Test.YtjjidbnjkhdkaaaCurSelfWalk
namespace Go.Proofs.Ytjjidbnjkhdkaaa
open Go.RowKit

theorem list_below {w w1 : World} {v : Value} {n : Nat} {f : Nat → Int} (h : ListAt w .i64 v n f) (hb : Below w.heap.size w w1) : ListAt w1 .i64 v n f := by
  rcases h with h | ⟨a, cap, h1, h2, h3, h4⟩
  · exact .inl h
  · exact .inr ⟨a, cap, h1, h2, h3, fun i hi => ⟨(hb.cell (World.block_lt_of_cell? w _ (h4 i hi).1)).trans (h4 i hi).1, (h4 i hi).2⟩⟩
/-- One element replaced. -/
def putA {α : Type} (f : Nat → α) (k : Nat) (v : α) (i : Nat) : α := if i = k then v else f i
theorem cell_put {w : World} {a b : Addr} {v u : Value} (h : w.cell? a = some u) (hab : b ≠ a) : (w.setCell b v).cell? a = some u := (World.cell?_setCell_other w _ _ _ hab).trans h
theorem tab_store {w : World} {g cap n k : Nat} {S : Nat → ByteArray} {F R : Nat → Int} (h : TabAt w (.slice (some ⟨g, 0, none⟩) n cap) n S F R) (hk : k < n) {s : ByteArray} {x y : Int} (hs : s.size ≤ maxLen) :
    TabAt (((w.setCell ⟨g, k * 3, none⟩ (.string s)).setCell ⟨g, k * 3 + 1, none⟩ (.int .i64 x)).setCell ⟨g, k * 3 + 2, none⟩ (.int .i64 y)) (.slice (some ⟨g, 0, none⟩) n cap) n (putA S k s) (putA F k x) (putA R k y) := by
  rcases h with ⟨h, _⟩ | ⟨a, cap', h, h1, h2, h3⟩
  · cases h
  · injection h with h _ hc
    injection h with h
    subst h hc
    refine .inr ⟨_, cap, rfl, h1, h2, fun i hi => ?_⟩
    obtain ⟨g0, g1, g2, g3⟩ := h3 i hi
    rw [Addr.add_lit, Nat.zero_add] at g1 g2 g3 ⊢
    have ne : ∀ p q : Nat, p ≠ q → (⟨g, p, none⟩ : Addr) ≠ ⟨g, q, none⟩ := fun p q hpq e => hpq (by injection e)
    by_cases e : i = k
    · subst e
      refine ⟨by unfold putA; rw [if_pos rfl]; exact hs, ?_, ?_, ?_⟩
      · rw [show putA S i s i = s from if_pos rfl]
        exact cell_put (cell_put (World.cell?_setCell_same _ _ _ g1) (ne _ _ (by omega))) (ne _ _ (by omega))
      · rw [show putA F i x i = x from if_pos rfl]
        exact cell_put (World.cell?_setCell_same _ _ _ (cell_put g2 (ne _ _ (by show i * 3 ≠ i * 3 + 1; omega)))) (ne _ _ (by show i * 3 + 2 ≠ i * 3 + 1; omega))
      · rw [show putA R i y i = y from if_pos rfl]
        exact World.cell?_setCell_same _ _ _ (cell_put (cell_put g3 (ne _ _ (by show i * 3 ≠ i * 3 + 2; omega))) (ne _ _ (by show i * 3 + 1 ≠ i * 3 + 2; omega)))
    · refine ⟨by unfold putA; rw [if_neg e]; exact g0, ?_, ?_, ?_⟩
      · rw [show putA S k s i = S i from if_neg e]
        exact cell_put (cell_put (cell_put g1 (ne _ _ (by omega))) (ne _ _ (by omega))) (ne _ _ (by omega))
      · rw [show putA F k x i = F i from if_neg e]
        exact cell_put (cell_put (cell_put g2 (ne _ _ (by show k * 3 ≠ i * 3 + 1; omega))) (ne _ _ (by show k * 3 + 1 ≠ i * 3 + 1; omega))) (ne _ _ (by show k * 3 + 2 ≠ i * 3 + 1; omega))
      · rw [show putA R k y i = R i from if_neg e]
        exact cell_put (cell_put (cell_put g3 (ne _ _ (by show k * 3 ≠ i * 3 + 2; omega))) (ne _ _ (by show k * 3 + 1 ≠ i * 3 + 2; omega))) (ne _ _ (by show k * 3 + 2 ≠ i * 3 + 2; omega))

set_option maxRecDepth 100000 in
set_option maxHeartbeats 3200000 in
theorem currencyValidate_walk (vr : Value) (nr : Nat) (S : Nat → ByteArray) (F R : Nat → Int) (w : World) (h0 : TabAt w vr nr S F R) (v : Value) (n : Nat) (f : Nat → Int) (h : ListAt w .i64 v n f) (at' : Int) (s : ByteArray) (x y : Int) (hs : s.size ≤ maxLen) :
    Calls Try.prog 3 #[vr, v, .int .i64 at', .agg #[.string s, .int .i64 x, .int .i64 y]] w fun e w' => e = .returned (.bool true) ∧ Below w.heap.size w w' := by
  obtain ⟨u, m, ht, hv⟩ := tab_cut 1100 h0
  clear h0
  have HA := Lib.hid (fun w => awake5_any w)
  have HT := Lib.hid (fun w2 (hb : Below w.heap.size w w2) => madeTable_any v n f w2 (list_below h hb))
  have HV := Lib.hid (fun w2 (hb : Below w.heap.size w w2) => curValidate_any u m S F R w2 (ht.keep hb))
  have HR := Lib.hid (fun w2 (hb : Below w.heap.size w w2) => refTable_any u m S F R w2 (ht.keep hb))
  generalize tabE S F R m = E at *
  clear ht h
  rcases hv with ⟨rfl, rfl⟩ | ⟨a, cp, rfl, hr1, rfl⟩ | ⟨a, cp, rfl, hr1, hr2, hr3, rfl⟩
  · go_enter Try.func3, Try.ntmps3
    go_wp2_with fail
    have q0 : (w.alloc (.cells #[.string s, .int .i64 x, .int .i64 y] 25)).cell? ⟨w.heap.size, 0, none⟩ = some (.string s) := by simp [go_sem]
    have q1 : (w.alloc (.cells #[.string s, .int .i64 x, .int .i64 y] 25)).cell? ⟨w.heap.size, 1, none⟩ = some (.int .i64 x) := by simp [go_sem]
    have q2 : (w.alloc (.cells #[.string s, .int .i64 x, .int .i64 y] 25)).cell? ⟨w.heap.size, 2, none⟩ = some (.int .i64 y) := by simp [go_sem]
    have hBa : Below w.heap.size w (w.alloc (.cells #[.string s, .int .i64 x, .int .i64 y] 25)) := (Below.refl _ _).alloc (Nat.le_refl _) _
    have hsz : w.heap.size < (w.alloc (.cells #[.string s, .int .i64 x, .int .i64 y] 25)).heap.size := World.block_lt_of_cell? _ _ q0
    generalize w.alloc (.cells #[.string s, .int .i64 x, .int .i64 y] 25) = W0 at *
    refine (HT.out _ hBa).mono ?_
    rintro e w1 ⟨q, L, SB, CB, rfl, hlen, hg, _, hM⟩
    have hB0 := hM.src.below
    have hB1 := hBa.trans (hB0.mono hBa.size)
    have H1 := Lib.hid (fun w2 (hb : Below w1.heap.size w1 w2) => curValidate_any q L.length _ _ _ w2 ((hM.tab hg).keep hb))
    have H2 := Lib.hid (fun w2 (hb : Below w1.heap.size w1 w2) => refTable_any q L.length _ _ _ w2 ((hM.tab hg).keep hb))
    rw [hg.tab (by omega)] at H1 H2
    go_wp2_with fail
    refine (HV.out _ hB1).mono ?_
    rintro e w2 ⟨rfl, hb2⟩
    have hB2 := hB1.trans (hb2.mono hB1.size)
    go_wp2_with fail
    refine (HR.out _ hB2).mono ?_
    rintro e w3 ⟨rfl, hb3⟩
    have hb3 := hb2.trans (hb3.mono hb2.size)
    go_wp2_with fail
    refine (H1.out _ hb3).mono ?_
    rintro e w4 ⟨rfl, hb4⟩
    have hb4 := hb3.trans (hb4.mono hb3.size)
    rcases hM.row.2 with ⟨h1, h2⟩ | ⟨g, cap, cur, h1, h2, h3, h4, h5, h6, h7⟩
    · subst h1
      clear h2 q0 q1 q2 hM
      go_wp2_with fail
      refine (H1.out _ hb4).mono ?_
      rintro e w5 ⟨rfl, hb5⟩
      have hb5 := hb4.trans (hb5.mono hb4.size)
      go_wp2_with fail
      refine (H2.out _ hb5).mono ?_
      rintro e w6 ⟨rfl, hb6⟩
      have hb6 := hb5.trans (hb6.mono hb5.size)
      go_wp2_with fail
      refine (HA.out _).mono ?_
      rintro e w7 ⟨rfl, hb7⟩
      have hb7 := hb6.trans (hb7.mono hb6.size)
      go_wp2_with fail
      go_ret
      exact ⟨rfl, hB1.trans (hb7.mono hB1.size)⟩
    · subst h1
      by_cases hl0 : L.length = 0
      · have d1 : decide ((0 : Int) < (L.length : Int)) = false := decide_eq_false (by omega)
        have d2 : decide (0 < L.length) = false := decide_eq_false (by omega)
        clear h2 h3 h4 h5 h6 h7 q0 q1 q2 hl0 hM
        go_wp2_with fail
        refine (H1.out _ hb4).mono ?_
        rintro e w5 ⟨rfl, hb5⟩
        have hb5 := hb4.trans (hb5.mono hb4.size)
        go_wp2_with fail
        refine (H2.out _ hb5).mono ?_
        rintro e w6 ⟨rfl, hb6⟩
        have hb6 := hb5.trans (hb6.mono hb5.size)
        go_wp2_with fail
        refine (HA.out _).mono ?_
        rintro e w7 ⟨rfl, hb7⟩
        have hb7 := hb6.trans (hb7.mono hb6.size)
        go_wp2_with fail
        go_ret
        exact ⟨rfl, hB1.trans (hb7.mono hB1.size)⟩
      · have d1 : decide ((0 : Int) < (L.length : Int)) = true := decide_eq_true (by omega)
        have d2 : decide (0 < L.length) = true := decide_eq_true (by omega)
        have k0 : w4.cell? ⟨w.heap.size, 0, none⟩ = some (.string s) := ((hb4.cell (p := ⟨w.heap.size, 0, none⟩) (by have := hB0.size; show w.heap.size < _; omega)).trans (hB0.cell (p := ⟨w.heap.size, 0, none⟩) hsz)).trans q0
        have k1 : w4.cell? ⟨w.heap.size, 1, none⟩ = some (.int .i64 x) := ((hb4.cell (p := ⟨w.heap.size, 1, none⟩) (by have := hB0.size; show w.heap.size < _; omega)).trans (hB0.cell (p := ⟨w.heap.size, 1, none⟩) hsz)).trans q1
        have k2 : w4.cell? ⟨w.heap.size, 2, none⟩ = some (.int .i64 y) := ((hb4.cell (p := ⟨w.heap.size, 2, none⟩) (by have := hB0.size; show w.heap.size < _; omega)).trans (hB0.cell (p := ⟨w.heap.size, 2, none⟩) hsz)).trans q2
        obtain ⟨k, hk⟩ : ∃ k : Nat, at' % (L.length : Int) = (k : Int) := ⟨(at' % (L.length : Int)).toNat, by have := Int.emod_nonneg at' (show (L.length : Int) ≠ 0 by omega); omega⟩
        have hkl : k < L.length := by have := Int.emod_lt_of_pos at' (show (0 : Int) < (L.length : Int) by omega); omega
        have HW := Lib.hid (fun w => madeWithin_any at' (L.length : Int) (by omega) (by omega) w)
        rw [hk] at HW
        clear hk
        have hblk : w4.heap[g]? = some (.cells cur 25 (0, 0)) := (hb4.block g (by have := (hM.row.lt g rfl).2; omega)).trans h3
        have c0 : ∀ j, j < 3 → ∃ z, w4.cell? ⟨g, k * 3 + j, none⟩ = some z := fun j hj => by
          have : k * 3 + j < cur.size := by rw [h6]; omega
          exact ⟨cur[k * 3 + j], by simp [World.cell?, hblk, this]⟩
        obtain ⟨z0, c0', c1', c2'⟩ : ∃ z : Nat → Value, w4.cell? ⟨g, k * 3, none⟩ = some (z 0) ∧ w4.cell? ⟨g, k * 3 + 1, none⟩ = some (z 1) ∧ w4.cell? ⟨g, k * 3 + 2, none⟩ = some (z 2) := by
          obtain ⟨a0, e0⟩ := c0 0 (by omega)
          obtain ⟨a1, e1⟩ := c0 1 (by omega)
          obtain ⟨a2, e2⟩ := c0 2 (by omega)
          exact ⟨fun i => if i = 0 then a0 else if i = 1 then a1 else a2, e0, e1, e2⟩
        have f0 : w4.frozen? ⟨g, k * 3, none⟩ = false := by simp [World.frozen?, hblk]
        have f1 : w4.frozen? ⟨g, k * 3 + 1, none⟩ = false := by simp [World.frozen?, hblk]
        have f2 : w4.frozen? ⟨g, k * 3 + 2, none⟩ = false := by simp [World.frozen?, hblk]
        have b1 : (k : Int) < (L.length : Int) := by omega
        have b2 : (k : Int).toNat = k := by omega
        have HBg : Hid (w.heap.size ≤ g) := Lib.hid (by
          have h8 := (hM.row.lt g rfl).1
          have h9 := hM.le
          have h10 := hM.src.own
          omega)
        have HT4 := Lib.hid ((hM.tab hg).keep hb4)
        have HB4 := Lib.hid (hB1.trans (hb4.mono hB1.size))
        go_wp2_with fail
        go_region_with (go_at_call 13; refine (HW.out _).mono ?_; rintro e w5 ⟨rfl, rfl⟩)
        all_goals
          have HT5 := tab_store (x := x) (y := y) HT4.out hkl hs
          have hB5 : Below w.heap.size w (((w4.setCell ⟨g, k * 3, none⟩ (.string s)).setCell ⟨g, k * 3 + 1, none⟩ (.int .i64 x)).setCell ⟨g, k * 3 + 2, none⟩ (.int .i64 y)) := ((HB4.out.setCell HBg.out _).setCell HBg.out _).setCell HBg.out _
          clear hblk c0 c0' c1' c2' f0 f1 f2 k0 k1 k2 q0 q1 q2 H1 H2 HV HR hM h2 h3 h4 h5 h6 h7 HT4 HB4
          generalize ((w4.setCell ⟨g, k * 3, none⟩ (.string s)).setCell ⟨g, k * 3 + 1, none⟩ (.int .i64 x)).setCell ⟨g, k * 3 + 2, none⟩ (.int .i64 y) = w5 at *
          have H3 := Lib.hid (fun w6 (hb : Below w5.heap.size w5 w6) => curValidate_any _ L.length _ _ _ w6 (HT5.keep hb))
          have H4 := Lib.hid (fun w6 (hb : Below w5.heap.size w5 w6) => refTable_any _ L.length _ _ _ w6 (HT5.keep hb))
          generalize tabE (putA (sX L) k s) (putA (fX L) k x) (putA (rX L) k y) L.length = E2 at *
          clear HT5
          have hD := (Below.refl w5.heap.size w5).drew
          go_wp2_with fail
          refine (H3.out _ hD).mono ?_
          rintro e w6 ⟨rfl, hb6⟩
          have hb6 := hD.trans (hb6.mono hD.size)
          go_wp2_with fail
          refine (H4.out _ hb6).mono ?_
          rintro e w7 ⟨rfl, hb7⟩
          have hb7 := hb6.trans (hb7.mono hb6.size)
          go_wp2_with fail
          refine (HA.out _).mono ?_
          rintro e w8 ⟨rfl, hb8⟩
          have hb8 := hb7.trans (hb8.mono hb7.size)
          go_wp2_with fail
          go_ret
          exact ⟨rfl, hB5.trans (hb8.mono hB5.size)⟩
  · have d5 : decide (1100 < (nr : Int)) = false := decide_eq_false (by omega)
    have d6 : decide (1100 < nr) = false := decide_eq_false (by omega)
    go_enter Try.func3, Try.ntmps3
    go_wp2_with fail
    have q0 : (w.alloc (.cells #[.string s, .int .i64 x, .int .i64 y] 25)).cell? ⟨w.heap.size, 0, none⟩ = some (.string s) := by simp [go_sem]
    have q1 : (w.alloc (.cells #[.string s, .int .i64 x, .int .i64 y] 25)).cell? ⟨w.heap.size, 1, none⟩ = some (.int .i64 x) := by simp [go_sem]
    have q2 : (w.alloc (.cells #[.string s, .int .i64 x, .int .i64 y] 25)).cell? ⟨w.heap.size, 2, none⟩ = some (.int .i64 y) := by simp [go_sem]
    have hBa : Below w.heap.size w (w.alloc (.cells #[.string s, .int .i64 x, .int .i64 y] 25)) := (Below.refl _ _).alloc (Nat.le_refl _) _
    have hsz : w.heap.size < (w.alloc (.cells #[.string s, .int .i64 x, .int .i64 y] 25)).heap.size := World.block_lt_of_cell? _ _ q0
    generalize w.alloc (.cells #[.string s, .int .i64 x, .int .i64 y] 25) = W0 at *
    refine (HT.out _ hBa).mono ?_
    rintro e w1 ⟨q, L, SB, CB, rfl, hlen, hg, _, hM⟩
    have hB0 := hM.src.below
    have hB1 := hBa.trans (hB0.mono hBa.size)
    have H1 := Lib.hid (fun w2 (hb : Below w1.heap.size w1 w2) => curValidate_any q L.length _ _ _ w2 ((hM.tab hg).keep hb))
    have H2 := Lib.hid (fun w2 (hb : Below w1.heap.size w1 w2) => refTable_any q L.length _ _ _ w2 ((hM.tab hg).keep hb))
    rw [hg.tab (by omega)] at H1 H2
    go_wp2_with fail
    refine (HV.out _ hB1).mono ?_
    rintro e w2 ⟨rfl, hb2⟩
    have hB2 := hB1.trans (hb2.mono hB1.size)
    go_wp2_with fail
    refine (HR.out _ hB2).mono ?_
    rintro e w3 ⟨rfl, hb3⟩
    have hb3 := hb2.trans (hb3.mono hb2.size)
    go_wp2_with fail
    refine (H1.out _ hb3).mono ?_
    rintro e w4 ⟨rfl, hb4⟩
    have hb4 := hb3.trans (hb4.mono hb3.size)
    rcases hM.row.2 with ⟨h1, h2⟩ | ⟨g, cap, cur, h1, h2, h3, h4, h5, h6, h7⟩
    · subst h1
      clear h2 q0 q1 q2 hM
      go_wp2_with fail
      refine (H1.out _ hb4).mono ?_
      rintro e w5 ⟨rfl, hb5⟩
      have hb5 := hb4.trans (hb5.mono hb4.size)
      go_wp2_with fail
      refine (H2.out _ hb5).mono ?_
      rintro e w6 ⟨rfl, hb6⟩
      have hb6 := hb5.trans (hb6.mono hb5.size)
      go_wp2_with fail
      refine (HA.out _).mono ?_
      rintro e w7 ⟨rfl, hb7⟩
      have hb7 := hb6.trans (hb7.mono hb6.size)
      go_wp2_with fail
      go_ret
      exact ⟨rfl, hB1.trans (hb7.mono hB1.size)⟩
    · subst h1
      by_cases hl0 : L.length = 0
      · have d1 : decide ((0 : Int) < (L.length : Int)) = false := decide_eq_false (by omega)
        have d2 : decide (0 < L.length) = false := decide_eq_false (by omega)
        clear h2 h3 h4 h5 h6 h7 q0 q1 q2 hl0 hM
        go_wp2_with fail
        refine (H1.out _ hb4).mono ?_
        rintro e w5 ⟨rfl, hb5⟩
        have hb5 := hb4.trans (hb5.mono hb4.size)
        go_wp2_with fail
        refine (H2.out _ hb5).mono ?_
        rintro e w6 ⟨rfl, hb6⟩
        have hb6 := hb5.trans (hb6.mono hb5.size)
        go_wp2_with fail
        refine (HA.out _).mono ?_
        rintro e w7 ⟨rfl, hb7⟩
        have hb7 := hb6.trans (hb7.mono hb6.size)
        go_wp2_with fail
        go_ret
        exact ⟨rfl, hB1.trans (hb7.mono hB1.size)⟩
      · have d1 : decide ((0 : Int) < (L.length : Int)) = true := decide_eq_true (by omega)
        have d2 : decide (0 < L.length) = true := decide_eq_true (by omega)
        have k0 : w4.cell? ⟨w.heap.size, 0, none⟩ = some (.string s) := ((hb4.cell (p := ⟨w.heap.size, 0, none⟩) (by have := hB0.size; show w.heap.size < _; omega)).trans (hB0.cell (p := ⟨w.heap.size, 0, none⟩) hsz)).trans q0
        have k1 : w4.cell? ⟨w.heap.size, 1, none⟩ = some (.int .i64 x) := ((hb4.cell (p := ⟨w.heap.size, 1, none⟩) (by have := hB0.size; show w.heap.size < _; omega)).trans (hB0.cell (p := ⟨w.heap.size, 1, none⟩) hsz)).trans q1
        have k2 : w4.cell? ⟨w.heap.size, 2, none⟩ = some (.int .i64 y) := ((hb4.cell (p := ⟨w.heap.size, 2, none⟩) (by have := hB0.size; show w.heap.size < _; omega)).trans (hB0.cell (p := ⟨w.heap.size, 2, none⟩) hsz)).trans q2
        obtain ⟨k, hk⟩ : ∃ k : Nat, at' % (L.length : Int) = (k : Int) := ⟨(at' % (L.length : Int)).toNat, by have := Int.emod_nonneg at' (show (L.length : Int) ≠ 0 by omega); omega⟩
        have hkl : k < L.length := by have := Int.emod_lt_of_pos at' (show (0 : Int) < (L.length : Int) by omega); omega
        have HW := Lib.hid (fun w => madeWithin_any at' (L.length : Int) (by omega) (by omega) w)
        rw [hk] at HW
        clear hk
        have hblk : w4.heap[g]? = some (.cells cur 25 (0, 0)) := (hb4.block g (by have := (hM.row.lt g rfl).2; omega)).trans h3
        have c0 : ∀ j, j < 3 → ∃ z, w4.cell? ⟨g, k * 3 + j, none⟩ = some z := fun j hj => by
          have : k * 3 + j < cur.size := by rw [h6]; omega
          exact ⟨cur[k * 3 + j], by simp [World.cell?, hblk, this]⟩
        obtain ⟨z0, c0', c1', c2'⟩ : ∃ z : Nat → Value, w4.cell? ⟨g, k * 3, none⟩ = some (z 0) ∧ w4.cell? ⟨g, k * 3 + 1, none⟩ = some (z 1) ∧ w4.cell? ⟨g, k * 3 + 2, none⟩ = some (z 2) := by
          obtain ⟨a0, e0⟩ := c0 0 (by omega)
          obtain ⟨a1, e1⟩ := c0 1 (by omega)
          obtain ⟨a2, e2⟩ := c0 2 (by omega)
          exact ⟨fun i => if i = 0 then a0 else if i = 1 then a1 else a2, e0, e1, e2⟩
        have f0 : w4.frozen? ⟨g, k * 3, none⟩ = false := by simp [World.frozen?, hblk]
        have f1 : w4.frozen? ⟨g, k * 3 + 1, none⟩ = false := by simp [World.frozen?, hblk]
        have f2 : w4.frozen? ⟨g, k * 3 + 2, none⟩ = false := by simp [World.frozen?, hblk]
        have b1 : (k : Int) < (L.length : Int) := by omega
        have b2 : (k : Int).toNat = k := by omega
        have HBg : Hid (w.heap.size ≤ g) := Lib.hid (by
          have h8 := (hM.row.lt g rfl).1
          have h9 := hM.le
          have h10 := hM.src.own
          omega)
        have HT4 := Lib.hid ((hM.tab hg).keep hb4)
        have HB4 := Lib.hid (hB1.trans (hb4.mono hB1.size))
        go_wp2_with fail
        go_region_with (go_at_call 13; refine (HW.out _).mono ?_; rintro e w5 ⟨rfl, rfl⟩)
        all_goals
          have HT5 := tab_store (x := x) (y := y) HT4.out hkl hs
          have hB5 : Below w.heap.size w (((w4.setCell ⟨g, k * 3, none⟩ (.string s)).setCell ⟨g, k * 3 + 1, none⟩ (.int .i64 x)).setCell ⟨g, k * 3 + 2, none⟩ (.int .i64 y)) := ((HB4.out.setCell HBg.out _).setCell HBg.out _).setCell HBg.out _
          clear hblk c0 c0' c1' c2' f0 f1 f2 k0 k1 k2 q0 q1 q2 H1 H2 HV HR hM h2 h3 h4 h5 h6 h7 HT4 HB4
          generalize ((w4.setCell ⟨g, k * 3, none⟩ (.string s)).setCell ⟨g, k * 3 + 1, none⟩ (.int .i64 x)).setCell ⟨g, k * 3 + 2, none⟩ (.int .i64 y) = w5 at *
          have H3 := Lib.hid (fun w6 (hb : Below w5.heap.size w5 w6) => curValidate_any _ L.length _ _ _ w6 (HT5.keep hb))
          have H4 := Lib.hid (fun w6 (hb : Below w5.heap.size w5 w6) => refTable_any _ L.length _ _ _ w6 (HT5.keep hb))
          generalize tabE (putA (sX L) k s) (putA (fX L) k x) (putA (rX L) k y) L.length = E2 at *
          clear HT5
          have hD := (Below.refl w5.heap.size w5).drew
          go_wp2_with fail
          refine (H3.out _ hD).mono ?_
          rintro e w6 ⟨rfl, hb6⟩
          have hb6 := hD.trans (hb6.mono hD.size)
          go_wp2_with fail
          refine (H4.out _ hb6).mono ?_
          rintro e w7 ⟨rfl, hb7⟩
          have hb7 := hb6.trans (hb7.mono hb6.size)
          go_wp2_with fail
          refine (HA.out _).mono ?_
          rintro e w8 ⟨rfl, hb8⟩
          have hb8 := hb7.trans (hb8.mono hb7.size)
          go_wp2_with fail
          go_ret
          exact ⟨rfl, hB5.trans (hb8.mono hB5.size)⟩
  · have d5 : decide (1100 < (nr : Int)) = true := decide_eq_true (by omega)
    have d6 : decide (1100 < nr) = true := decide_eq_true (by omega)
    have s1 : (1100 : Int) ≤ (cp : Int) := by omega
    go_enter Try.func3, Try.ntmps3
    go_wp2_with fail
    have q0 : (w.alloc (.cells #[.string s, .int .i64 x, .int .i64 y] 25)).cell? ⟨w.heap.size, 0, none⟩ = some (.string s) := by simp [go_sem]
    have q1 : (w.alloc (.cells #[.string s, .int .i64 x, .int .i64 y] 25)).cell? ⟨w.heap.size, 1, none⟩ = some (.int .i64 x) := by simp [go_sem]
    have q2 : (w.alloc (.cells #[.string s, .int .i64 x, .int .i64 y] 25)).cell? ⟨w.heap.size, 2, none⟩ = some (.int .i64 y) := by simp [go_sem]
    have hBa : Below w.heap.size w (w.alloc (.cells #[.string s, .int .i64 x, .int .i64 y] 25)) := (Below.refl _ _).alloc (Nat.le_refl _) _
    have hsz : w.heap.size < (w.alloc (.cells #[.string s, .int .i64 x, .int .i64 y] 25)).heap.size := World.block_lt_of_cell? _ _ q0
    generalize w.alloc (.cells #[.string s, .int .i64 x, .int .i64 y] 25) = W0 at *
    refine (HT.out _ hBa).mono ?_
    rintro e w1 ⟨q, L, SB, CB, rfl, hlen, hg, _, hM⟩
    have hB0 := hM.src.below
    have hB1 := hBa.trans (hB0.mono hBa.size)
    have H1 := Lib.hid (fun w2 (hb : Below w1.heap.size w1 w2) => curValidate_any q L.length _ _ _ w2 ((hM.tab hg).keep hb))
    have H2 := Lib.hid (fun w2 (hb : Below w1.heap.size w1 w2) => refTable_any q L.length _ _ _ w2 ((hM.tab hg).keep hb))
    rw [hg.tab (by omega)] at H1 H2
    go_wp2_with fail
    refine (HV.out _ hB1).mono ?_
    rintro e w2 ⟨rfl, hb2⟩
    have hB2 := hB1.trans (hb2.mono hB1.size)
    go_wp2_with fail
    refine (HR.out _ hB2).mono ?_
    rintro e w3 ⟨rfl, hb3⟩
    have hb3 := hb2.trans (hb3.mono hb2.size)
    go_wp2_with fail
    refine (H1.out _ hb3).mono ?_
    rintro e w4 ⟨rfl, hb4⟩
    have hb4 := hb3.trans (hb4.mono hb3.size)
    rcases hM.row.2 with ⟨h1, h2⟩ | ⟨g, cap, cur, h1, h2, h3, h4, h5, h6, h7⟩
    · subst h1
      clear h2 q0 q1 q2 hM
      go_wp2_with fail
      refine (H1.out _ hb4).mono ?_
      rintro e w5 ⟨rfl, hb5⟩
      have hb5 := hb4.trans (hb5.mono hb4.size)
      go_wp2_with fail
      refine (H2.out _ hb5).mono ?_
      rintro e w6 ⟨rfl, hb6⟩
      have hb6 := hb5.trans (hb6.mono hb5.size)
      go_wp2_with fail
      refine (HA.out _).mono ?_
      rintro e w7 ⟨rfl, hb7⟩
      have hb7 := hb6.trans (hb7.mono hb6.size)
      go_wp2_with fail
      go_ret
      exact ⟨rfl, hB1.trans (hb7.mono hB1.size)⟩
    · subst h1
      by_cases hl0 : L.length = 0
      · have d1 : decide ((0 : Int) < (L.length : Int)) = false := decide_eq_false (by omega)
        have d2 : decide (0 < L.length) = false := decide_eq_false (by omega)
        clear h2 h3 h4 h5 h6 h7 q0 q1 q2 hl0 hM
        go_wp2_with fail
        refine (H1.out _ hb4).mono ?_
        rintro e w5 ⟨rfl, hb5⟩
        have hb5 := hb4.trans (hb5.mono hb4.size)
        go_wp2_with fail
        refine (H2.out _ hb5).mono ?_
        rintro e w6 ⟨rfl, hb6⟩
        have hb6 := hb5.trans (hb6.mono hb5.size)
        go_wp2_with fail
        refine (HA.out _).mono ?_
        rintro e w7 ⟨rfl, hb7⟩
        have hb7 := hb6.trans (hb7.mono hb6.size)
        go_wp2_with fail
        go_ret
        exact ⟨rfl, hB1.trans (hb7.mono hB1.size)⟩
      · have d1 : decide ((0 : Int) < (L.length : Int)) = true := decide_eq_true (by omega)
        have d2 : decide (0 < L.length) = true := decide_eq_true (by omega)
        have k0 : w4.cell? ⟨w.heap.size, 0, none⟩ = some (.string s) := ((hb4.cell (p := ⟨w.heap.size, 0, none⟩) (by have := hB0.size; show w.heap.size < _; omega)).trans (hB0.cell (p := ⟨w.heap.size, 0, none⟩) hsz)).trans q0
        have k1 : w4.cell? ⟨w.heap.size, 1, none⟩ = some (.int .i64 x) := ((hb4.cell (p := ⟨w.heap.size, 1, none⟩) (by have := hB0.size; show w.heap.size < _; omega)).trans (hB0.cell (p := ⟨w.heap.size, 1, none⟩) hsz)).trans q1
        have k2 : w4.cell? ⟨w.heap.size, 2, none⟩ = some (.int .i64 y) := ((hb4.cell (p := ⟨w.heap.size, 2, none⟩) (by have := hB0.size; show w.heap.size < _; omega)).trans (hB0.cell (p := ⟨w.heap.size, 2, none⟩) hsz)).trans q2
        obtain ⟨k, hk⟩ : ∃ k : Nat, at' % (L.length : Int) = (k : Int) := ⟨(at' % (L.length : Int)).toNat, by have := Int.emod_nonneg at' (show (L.length : Int) ≠ 0 by omega); omega⟩
        have hkl : k < L.length := by have := Int.emod_lt_of_pos at' (show (0 : Int) < (L.length : Int) by omega); omega
        have HW := Lib.hid (fun w => madeWithin_any at' (L.length : Int) (by omega) (by omega) w)
        rw [hk] at HW
        clear hk
        have hblk : w4.heap[g]? = some (.cells cur 25 (0, 0)) := (hb4.block g (by have := (hM.row.lt g rfl).2; omega)).trans h3
        have c0 : ∀ j, j < 3 → ∃ z, w4.cell? ⟨g, k * 3 + j, none⟩ = some z := fun j hj => by
          have : k * 3 + j < cur.size := by rw [h6]; omega
          exact ⟨cur[k * 3 + j], by simp [World.cell?, hblk, this]⟩
        obtain ⟨z0, c0', c1', c2'⟩ : ∃ z : Nat → Value, w4.cell? ⟨g, k * 3, none⟩ = some (z 0) ∧ w4.cell? ⟨g, k * 3 + 1, none⟩ = some (z 1) ∧ w4.cell? ⟨g, k * 3 + 2, none⟩ = some (z 2) := by
          obtain ⟨a0, e0⟩ := c0 0 (by omega)
          obtain ⟨a1, e1⟩ := c0 1 (by omega)
          obtain ⟨a2, e2⟩ := c0 2 (by omega)
          exact ⟨fun i => if i = 0 then a0 else if i = 1 then a1 else a2, e0, e1, e2⟩
        have f0 : w4.frozen? ⟨g, k * 3, none⟩ = false := by simp [World.frozen?, hblk]
        have f1 : w4.frozen? ⟨g, k * 3 + 1, none⟩ = false := by simp [World.frozen?, hblk]
        have f2 : w4.frozen? ⟨g, k * 3 + 2, none⟩ = false := by simp [World.frozen?, hblk]
        have b1 : (k : Int) < (L.length : Int) := by omega
        have b2 : (k : Int).toNat = k := by omega
        have HBg : Hid (w.heap.size ≤ g) := Lib.hid (by
          have h8 := (hM.row.lt g rfl).1
          have h9 := hM.le
          have h10 := hM.src.own
          omega)
        have HT4 := Lib.hid ((hM.tab hg).keep hb4)
        have HB4 := Lib.hid (hB1.trans (hb4.mono hB1.size))
        go_wp2_with fail
        go_region_with (go_at_call 13; refine (HW.out _).mono ?_; rintro e w5 ⟨rfl, rfl⟩)
        all_goals
          have HT5 := tab_store (x := x) (y := y) HT4.out hkl hs
          have hB5 : Below w.heap.size w (((w4.setCell ⟨g, k * 3, none⟩ (.string s)).setCell ⟨g, k * 3 + 1, none⟩ (.int .i64 x)).setCell ⟨g, k * 3 + 2, none⟩ (.int .i64 y)) := ((HB4.out.setCell HBg.out _).setCell HBg.out _).setCell HBg.out _
          clear hblk c0 c0' c1' c2' f0 f1 f2 k0 k1 k2 q0 q1 q2 H1 H2 HV HR hM h2 h3 h4 h5 h6 h7 HT4 HB4
          generalize ((w4.setCell ⟨g, k * 3, none⟩ (.string s)).setCell ⟨g, k * 3 + 1, none⟩ (.int .i64 x)).setCell ⟨g, k * 3 + 2, none⟩ (.int .i64 y) = w5 at *
          have H3 := Lib.hid (fun w6 (hb : Below w5.heap.size w5 w6) => curValidate_any _ L.length _ _ _ w6 (HT5.keep hb))
          have H4 := Lib.hid (fun w6 (hb : Below w5.heap.size w5 w6) => refTable_any _ L.length _ _ _ w6 (HT5.keep hb))
          generalize tabE (putA (sX L) k s) (putA (fX L) k x) (putA (rX L) k y) L.length = E2 at *
          clear HT5
          have hD := (Below.refl w5.heap.size w5).drew
          go_wp2_with fail
          refine (H3.out _ hD).mono ?_
          rintro e w6 ⟨rfl, hb6⟩
          have hb6 := hD.trans (hb6.mono hD.size)
          go_wp2_with fail
          refine (H4.out _ hb6).mono ?_
          rintro e w7 ⟨rfl, hb7⟩
          have hb7 := hb6.trans (hb7.mono hb6.size)
          go_wp2_with fail
          refine (HA.out _).mono ?_
          rintro e w8 ⟨rfl, hb8⟩
          have hb8 := hb7.trans (hb8.mono hb7.size)
          go_wp2_with fail
          go_ret
          exact ⟨rfl, hB5.trans (hb8.mono hB5.size)⟩
end Go.Proofs.Ytjjidbnjkhdkaaa
