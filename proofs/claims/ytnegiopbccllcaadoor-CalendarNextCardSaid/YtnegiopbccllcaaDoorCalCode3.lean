/- What Valid and Working of the package calendar return, and the search among the holidays. Condition: the list's cells are known; for Working, the list is valid. -/
import Derived.Test.YtnegiopbccllcaaDoorCalCode1
import Derived.Test.YtnegiopbccllcaaDoorCalRef6
namespace Go.Proofs.YtnegiopbccllcaaDoor
open Go.RowKit

set_option maxRecDepth 100000 in
set_option maxHeartbeats 1600000 in
theorem calValid_any (v : Value) (n : Nat) (g : Nat → Int) (w : World) (h : ListAt w .i64 v n g) :
    Calls Tryd.prog 23 #[v] w fun e w' => e = .returned (.int .i64 (validE n g)) ∧ Below w.heap.size w w' := by
  have h0 := h
  rcases h with ⟨rfl, rfl⟩ | ⟨a, cap, rfl, h1, h2, h3⟩
  · go_enter Tryd.func23, Tryd.ntmps23
    go_wp2_with fail
    go_loopw [10] (fun i wx => i = .int .i64 0 ∧ wx = w) (fun _ _ => 0)
    case atStart => exact ⟨rfl, by first | rfl | trivial⟩
    case round =>
      obtain ⟨rfl, rfl⟩ := hrel
      go_wp2_with fail
      go_ret
      exact ⟨rfl, Below.refl _ _⟩
  · have hn : n ≤ 9223372036854775807 := by unfold maxLen at *; omega
    by_cases hl : 2000 < n
    · have e : validE n g = 8 := if_pos hl
      have d1 : decide (2000 < (n : Int)) = true := decide_eq_true (by omega)
      rw [e]
      clear e hl h0
      go_enter Tryd.func23, Tryd.ntmps23
      go_wp2_with fail
      go_ret
      exact ⟨rfl, Below.refl _ _⟩
    · have e : validE n g = vlE g n := if_neg hl
      rw [e]
      clear e
      have hstop : Hid (∀ k r, k < n → vlE g (k + 1) = r → r ≠ 0 → vlE g n = r) := Lib.hid (fun k r hk h1 h2 => by
        rw [← h1]
        exact vl_stays (by rw [h1]; exact h2) n (by omega))
      have hend : Hid (∀ k, k = n → vlE g k = 0 → vlE g n = 0) := Lib.hid (fun k e h => by rw [← e]; exact h)
      have HD := Lib.hid (fun k => isDay_any (g k))
      have HC := Lib.hid (fun (wx : World) (hb : Below w.heap.size w wx) (i : Nat) (hi : i < n) => (hb.cell (World.block_lt_of_cell? w _ (h3 i hi).1)).trans (h3 i hi).1)
      clear h0 h3
      generalize vlE g n = R at *
      have d1 : decide (2000 < (n : Int)) = false := decide_eq_false (by omega)
      go_enter Tryd.func23, Tryd.ntmps23
      go_wp2_with fail
      go_loopw [10] (fun i wx => ∃ k : Nat, k ≤ n ∧ i = .int .i64 (k : Int) ∧ Hid (vlE g k = 0) ∧ Below w.heap.size w wx) (fun i _ => n - (intOf i).toNat)
      case atStart => exact ⟨0, by omega, rfl, Lib.hid rfl, Below.refl _ _⟩
      case round =>
        obtain ⟨k, hk, rfl, ho, hB⟩ := hrel
        by_cases hlt : k < n
        · have q := HC.out _ hB k hlt
          have d2 : decide ((k : Int) < (n : Int)) = true := decide_eq_true (by omega)
          have hD := Lib.hid (HD.out k)
          clear HD hend
          cases c : dayB (g k) with
          | false =>
            have e := hstop.out k 2 hlt (vl_day ho.out c) (by decide)
            rw [c] at hD
            clear hstop ho
            subst e
            clear c HC
            generalize g k = gk at *
            go_wp2_with fail
            refine (hD.out _).mono ?_
            rintro e w1 ⟨rfl, hb1⟩
            have hB1 := hB.trans (hb1.mono hB.size)
            go_wp2_with fail
            go_ret
            exact ⟨rfl, hB1⟩
          | true =>
            rw [c] at hD
            by_cases hk0 : 0 < k
            · have q2 := Lib.hid (fun (wx : World) (hb : Below w.heap.size w wx) => HC.out wx hb (k - 1) (by omega))
              have d3 : decide (0 < (k : Int)) = true := decide_eq_true (by omega)
              have e1 : (((k - 1 : Nat) : Int)) = (k : Int) - 1 := by omega
              by_cases hle : g k ≤ g (k - 1)
              · have e := hstop.out k 9 hlt (vl_order ho.out c ⟨hk0, hle⟩) (by decide)
                have d4 : decide (g k ≤ g (k - 1)) = true := decide_eq_true hle
                clear hstop ho
                subst e
                clear HC c hle
                generalize g k = gk at *
                generalize g (k - 1) = gl at *
                go_wp2_with fail
                refine (hD.out _).mono ?_
                rintro e w1 ⟨rfl, hb1⟩
                have hB1 := hB.trans (hb1.mono hB.size)
                have q3 := q2.out _ hB1
                go_wp2_with fail
                go_ret
                exact ⟨rfl, hB1⟩
              · have ho2 := Lib.hid (vl_step ho.out c (by omega))
                have d4 : decide (g k ≤ g (k - 1)) = false := decide_eq_false hle
                clear hstop ho HC c hle
                generalize g k = gk at *
                generalize g (k - 1) = gl at *
                go_wp2_with fail
                refine (hD.out _).mono ?_
                rintro e w1 ⟨rfl, hb1⟩
                have hB1 := hB.trans (hb1.mono hB.size)
                have q3 := q2.out _ hB1
                go_wp2_with fail
                go_roundw
                case rel => exact ⟨k + 1, by omega, int_eq (by omega), ho2, hB1⟩
                case measure => simp [intOf]; omega
            · have ho2 := Lib.hid (vl_step ho.out c (by omega))
              have d3 : decide (0 < (k : Int)) = false := decide_eq_false (by omega)
              clear hstop ho HC c
              generalize g k = gk at *
              go_wp2_with fail
              refine (hD.out _).mono ?_
              rintro e w1 ⟨rfl, hb1⟩
              have hB1 := hB.trans (hb1.mono hB.size)
              go_wp2_with fail
              go_roundw
              case rel => exact ⟨k + 1, by omega, int_eq (by omega), ho2, hB1⟩
              case measure => simp [intOf]; omega
        · obtain rfl : k = n := by omega
          have e := hend.out k rfl ho.out
          have d2 : decide ((k : Int) < (k : Int)) = false := decide_eq_false (by omega)
          clear hend hstop ho HC HD
          subst e
          go_wp2_with fail
          go_ret
          exact ⟨rfl, hB⟩

/-- A valid list ascends. -/
theorem vl_pred {g : Nat → Int} {k : Nat} (h : vlE g (k + 1) = 0) : vlE g k = 0 ∧ (0 < k → g (k - 1) < g k) := by
  by_cases h0 : vlE g k = 0
  · refine ⟨h0, fun hk => ?_⟩
    cases hd : dayB (g k) with
    | false => rw [vl_day h0 hd] at h; omega
    | true =>
      by_cases ho : 0 < k ∧ g k ≤ g (k - 1)
      · rw [vl_order h0 hd ho] at h; omega
      · omega
  · exact absurd ((vl_stays h0 (k + 1) (by omega)).symm.trans h) h0
theorem vl_back {g : Nat → Int} : ∀ (n k : Nat), k ≤ n → vlE g n = 0 → vlE g k = 0
  | 0, k, hk, h => by
    obtain rfl : k = 0 := by omega
    exact h
  | n + 1, k, hk, h => by
    by_cases e : k = n + 1
    · subst e; exact h
    · exact vl_back n k (by omega) (vl_pred h).1
theorem vl_asc {g : Nat → Int} {n : Nat} (h : vlE g n = 0) : ∀ (j i : Nat), j < n → i < j → g i < g j
  | 0, i, _, hi => by omega
  | j + 1, i, hj, hi => by
    have h1 := (vl_pred (vl_back n (j + 2) (by omega) h)).2 (by omega)
    rw [show j + 1 - 1 = j by omega] at h1
    by_cases e : i = j
    · subst e; exact h1
    · have := vl_asc h j i (by omega) (by omega)
      omega
theorem off_all {g : Nat → Int} {x : Int} : ∀ n : Nat, (∀ k, k < n → (g k == x) = false) → offB g x n = true
  | 0, _ => rfl
  | n + 1, h => off_next (off_all n fun k hk => h k (by omega)) (h n (by omega))
/-- Where the search ends. -/
theorem off_found {g : Nat → Int} {x : Int} {n i : Nat} (h : vlE g n = 0) (h1 : ∀ k, k < i → g k < x) (h2 : ∀ k, i ≤ k → k < n → x ≤ g k) (hi : i ≤ n) : (!offB g x n) = (decide (i < n) && (g i == x)) := by
  by_cases hin : i < n
  · rw [decide_eq_true hin, Bool.true_and]
    cases c : g i == x with
    | true => rw [off_at g x i n hin c]; rfl
    | false =>
      rw [off_all n (fun k hk => ?_)]
      · rfl
      · rw [beq_eq_false_iff_ne] at c ⊢
        have h3 := h2 i (Nat.le_refl _) hin
        rcases Nat.lt_trichotomy k i with h4 | h4 | h4
        · have := h1 k h4; omega
        · rw [h4]; exact c
        · have := vl_asc h k i hk h4; omega
  · rw [decide_eq_false hin, Bool.false_and, off_all n (fun k hk => ?_)]
    · rfl
    · rw [beq_eq_false_iff_ne]
      have := h1 k (by omega)
      omega

theorem noNaN_any (a : Int) (w : World) : Calls Tryd.prog 49 #[.int .i64 a] w fun e w' => e = .returned (.bool false) ∧ w = w' := by
  have h0 : (a != a) = false := by simp
  go_enter Tryd.func49, Tryd.ntmps49
  go_wp2_with fail
  go_ret
  exact ⟨rfl, rfl⟩
theorem noNaN2_any (a : Int) (w : World) : Calls Tryd.prog 48 #[.int .i64 a] w fun e w' => e = .returned (.bool false) ∧ w = w' := by
  have h0 : (a != a) = false := by simp
  go_enter Tryd.func48, Tryd.ntmps48
  go_wp2_with fail
  go_ret
  exact ⟨rfl, rfl⟩
theorem cmpLess_any (a b : Int) (w : World) : Calls Tryd.prog 47 #[.int .i64 a, .int .i64 b] w fun e w' => e = .returned (.bool (decide (a < b))) ∧ w = w' := by
  have n1 := noNaN_any a
  go_enter Tryd.func47, Tryd.ntmps47
  go_wp2_with fail
  refine (n1 _).mono ?_
  rintro e w1 ⟨rfl, rfl⟩
  go_wp2_with fail
  go_ret
  exact ⟨rfl, rfl⟩

set_option maxRecDepth 100000 in
set_option maxHeartbeats 1600000 in
theorem binary_any (v : Value) (n : Nat) (g : Nat → Int) (x : Int) (w : World) (h : ListAt w .i64 v n g) (hv : vlE g n = 0) (hn : n ≤ 2000) :
    Calls Tryd.prog 42 #[v, .int .i64 x] w fun e w' => (∃ i : Int, e = .returned (.tuple #[.int .i64 i, .bool (!offB g x n)])) ∧ ∃ m, w' = w.drewN m := by
  rcases h with ⟨rfl, rfl⟩ | ⟨a, cap, rfl, h1, h2, h3⟩
  · go_enter Tryd.func42, Tryd.ntmps42
    go_wp2_with fail
    go_loopw [7, 8] (fun i j wx => i = .int .i64 0 ∧ j = .int .i64 0 ∧ wx = w) (fun _ _ _ => 0)
    case atStart => exact ⟨rfl, rfl, by first | rfl | trivial⟩
    case round =>
      obtain ⟨rfl, rfl, rfl⟩ := hrel
      go_wp2_with fail
      first
        | (go_ret2; exact ⟨⟨_, rfl⟩, 0, rfl⟩)
        | (go_quiet (fail); go_wp2_with fail; go_ret2; exact ⟨⟨_, rfl⟩, _, rfl⟩)
  · have HF := Lib.hid (fun i h1 h2 hi => off_found (x := x) (i := i) hv h1 h2 hi)
    have HA := Lib.hid (vl_asc hv)
    have HL := Lib.hid (fun (i : Nat) => cmpLess_any (g i) x)
    have hb : n ≤ 9223372036854775807 := by omega
    generalize (!offB g x n) = R at *
    clear hv
    go_enter Tryd.func42, Tryd.ntmps42
    go_wp2_with fail
    go_loopw [7, 8] (fun vi vj wx => ∃ i j : Nat, vi = .int .i64 i ∧ vj = .int .i64 j ∧ i ≤ j ∧ j ≤ n ∧ Hid (∀ k, k < i → g k < x) ∧ Hid (∀ k, j ≤ k → k < n → x ≤ g k) ∧ wx = w) (fun vi vj _ => (intOf vj).toNat - (intOf vi).toNat)
    case atStart => exact ⟨0, n, by go_num, rfl, by omega, by omega, Lib.hid (fun k hk => by omega), Lib.hid (fun k h1 h2 => by omega), by first | rfl | trivial⟩
    case round =>
      obtain ⟨i, j, rfl, rfl, hij, hj, hlo, hhi, rfl⟩ := hrel
      by_cases hlt : i < j
      · obtain ⟨c, hc⟩ : ∃ c, c = (i + j) / 2 := ⟨_, rfl⟩
        have hc1 : i ≤ c := by omega
        have hc2 : c < j := by omega
        have hz : ((i : Int) + (j : Int)) / 2 = (c : Int) := by omega
        clear hc HF
        have q := (h3 c (by omega)).1
        have HC := Lib.hid (HL.out c)
        by_cases ht : g c < x
        · rw [decide_eq_true ht] at HC
          have N := Lib.hid (show ∀ k, k < c + 1 → g k < x from fun k hk => by
            by_cases e : k = c
            · subst e; exact ht
            · have := HA.out c k (by omega) (by omega)
              omega)
          clear hlo HA h3 HL ht
          generalize g c = y at *
          go_wp2_with fail
          refine (HC.out _).mono ?_
          rintro e w1 ⟨rfl, rfl⟩
          go_wp2_with fail
          go_roundw
          case rel => exact ⟨c + 1, j, by go_num, rfl, by omega, hj, N, hhi, by first | rfl | trivial⟩
          case measure => simp [intOf]; omega
        · rw [decide_eq_false ht] at HC
          have N := Lib.hid (show ∀ k, c ≤ k → k < n → x ≤ g k from fun k h1 h2 => by
            by_cases e : k = c
            · subst e; omega
            · have := HA.out k c h2 (by omega)
              omega)
          clear hhi HA h3 HL ht
          generalize g c = y at *
          go_wp2_with fail
          refine (HC.out _).mono ?_
          rintro e w1 ⟨rfl, rfl⟩
          go_wp2_with fail
          go_roundw
          case rel => exact ⟨i, c, rfl, by go_num, by omega, by omega, hlo, N, by first | rfl | trivial⟩
          case measure => simp [intOf]; omega
      · obtain rfl : i = j := by omega
        have hR := HF.out i hlo.out hhi.out hj
        clear HF hlo hhi HA HL
        by_cases hin : i < n
        · have q := (h3 i hin).1
          rw [decide_eq_true hin, Bool.true_and] at hR
          clear h3
          generalize g i = y at *
          cases c : y == x with
          | true =>
            rw [c] at hR
            subst hR
            go_wp2_with fail
            go_ret2
            exact ⟨⟨_, rfl⟩, 0, rfl⟩
          | false =>
            rw [c] at hR
            subst hR
            go_wp2_with fail
            refine (noNaN2_any y _).mono ?_
            rintro e w1 ⟨rfl, rfl⟩
            go_wp2_with fail
            go_ret2
            exact ⟨⟨_, rfl⟩, 0, rfl⟩
        · rw [decide_eq_false hin, Bool.false_and] at hR
          subst hR
          clear h3
          go_wp2_with fail
          go_ret2
          exact ⟨⟨_, rfl⟩, 0, rfl⟩

theorem valid_zero {n : Nat} {g : Nat → Int} (hv : validE n g = 0) : n ≤ 2000 ∧ vlE g n = 0 := by
  unfold validE at hv
  by_cases h : 2000 < n
  · rw [if_pos h] at hv; omega
  · rw [if_neg h] at hv; exact ⟨by omega, hv⟩

set_option maxRecDepth 100000 in
set_option maxHeartbeats 1600000 in
theorem calWorking_any (v : Value) (n : Nat) (g : Nat → Int) (x : Int) (w : World) (h : ListAt w .i64 v n g) (hv : validE n g = 0) :
    Calls Tryd.prog 25 #[v, .int .i64 x] w fun e w' => e = .returned (.bool (workB n g x)) ∧ Below w.heap.size w w' := by
  obtain ⟨hn, hz⟩ := valid_zero hv
  have HD := Lib.hid (isDay_any x)
  have HW := Lib.hid (calWeekday_any x)
  have HB := Lib.hid (fun (w1 : World) (hb : Below w.heap.size w w1) => binary_any v n g x w1 (listAt_below h hb) hz hn)
  have hw : workB n g x = (offB g x n && (dayB x && decide ((x + 5) % 7 ≤ 4))) := rfl
  clear h hv hz
  generalize workB n g x = R at *
  generalize offB g x n = O at *
  cases hd : dayB x with
  | false =>
    rw [hd] at HD hw
    simp at hw
    subst hw
    clear HB HW hd
    go_enter Tryd.func25, Tryd.ntmps25
    go_wp2_with fail
    refine (HD.out _).mono ?_
    rintro e w1 ⟨rfl, hB1⟩
    go_wp2_with fail
    go_ret
    exact ⟨rfl, hB1⟩
  | true =>
    rw [hd] at HD HW hw
    simp only [if_true] at HW
    rw [Bool.true_and] at hw
    clear hd
    generalize (x + 5) % 7 = W at *
    by_cases hc : W ≤ 4
    · rw [decide_eq_true hc, Bool.and_true] at hw
      subst hw
      have d1 : decide (4 < W) = false := decide_eq_false (by omega)
      clear hc
      go_enter Tryd.func25, Tryd.ntmps25
      go_wp2_with fail
      refine (HD.out _).mono ?_
      rintro e w1 ⟨rfl, hB1⟩
      go_wp2_with fail
      refine (HW.out _).mono ?_
      rintro e w2 ⟨rfl, hb2⟩
      have hB2 := hB1.trans (hb2.mono hB1.size)
      go_wp2_with fail
      refine (HB.out _ hB2).mono ?_
      rintro e w3 ⟨⟨i, rfl⟩, m, rfl⟩
      clear HB HW HD
      go_wp2_with fail
      go_ret
      exact ⟨rfl, below_drewN hB2 _⟩
    · rw [decide_eq_false hc, Bool.and_false] at hw
      subst hw
      have d1 : decide (4 < W) = true := decide_eq_true (by omega)
      clear hc HB
      go_enter Tryd.func25, Tryd.ntmps25
      go_wp2_with fail
      refine (HD.out _).mono ?_
      rintro e w1 ⟨rfl, hB1⟩
      go_wp2_with fail
      refine (HW.out _).mono ?_
      rintro e w2 ⟨rfl, hb2⟩
      have hB2 := hB1.trans (hb2.mono hB1.size)
      go_wp2_with fail
      go_ret
      exact ⟨rfl, hB2⟩
end Go.Proofs.YtnegiopbccllcaaDoor
