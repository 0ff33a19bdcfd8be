/- What Day, Long, Of, Number, Weekday and AddMonths of the reference of layer 4 return, for every input. No condition. -/
import Derived.Test.YtnegiopbccllcaaDoorCalSpec
import Derived.Test.YtnegiopbccllcaaDoorDay
import Derived.Deep.QuietTactic
import Derived.BigQuiet
namespace Go.Proofs.YtnegiopbccllcaaDoor
open Go.RowKit

set_option maxHeartbeats 800000 in
/-- Condition: a year that is no great number. -/
theorem refLong_any (y m : Nat) (hy : y ≤ 1000000) (hm : m ≤ 1000000) (w : World) : Calls Tryd.prog 37 #[.int .i64 y, .int .i64 m] w fun e w' => e = .returned (.int .i64 (lenM y m)) ∧ w = w' := by
  have hl : (lenM y m : Int) = if m = 2 then (if y % 4 = 0 ∧ (y % 100 ≠ 0 ∨ y % 400 = 0) then 29 else 28) else if m = 4 ∨ m = 6 ∨ m = 9 ∨ m = 11 then 30 else 31 := by
    unfold lenM
    split
    · split <;> rfl
    · split <;> rfl
  rw [hl]
  clear hl
  by_cases h2 : m = 2
  · rw [if_pos h2]
    subst h2
    by_cases h4 : y % 4 = 0
    · have d4 : ((y : Int) % 4 == 0) = true := by rw [beq_iff_eq]; omega
      by_cases h100 : y % 100 = 0
      · have d100 : ((y : Int) % 100 != 0) = false := by rw [bne_eq_false_iff_eq]; omega
        by_cases h400 : y % 400 = 0
        · have d400 : ((y : Int) % 400 == 0) = true := by rw [beq_iff_eq]; omega
          rw [if_pos (by omega)]
          go_enter Tryd.func37, Tryd.ntmps37
          go_wp2
          go_ret
          exact ⟨rfl, rfl⟩
        · have d400 : ((y : Int) % 400 == 0) = false := by rw [beq_eq_false_iff_ne]; omega
          rw [if_neg (by omega)]
          go_enter Tryd.func37, Tryd.ntmps37
          go_wp2
          go_ret
          exact ⟨rfl, rfl⟩
      · have d100 : ((y : Int) % 100 != 0) = true := by rw [bne_iff_ne]; omega
        rw [if_pos (by omega)]
        go_enter Tryd.func37, Tryd.ntmps37
        go_wp2
        go_ret
        exact ⟨rfl, rfl⟩
    · have d4 : ((y : Int) % 4 == 0) = false := by rw [beq_eq_false_iff_ne]; omega
      rw [if_neg (by omega)]
      go_enter Tryd.func37, Tryd.ntmps37
      go_wp2
      go_ret
      exact ⟨rfl, rfl⟩
  · rw [if_neg h2]
    have e2 : ((m : Int) == 2) = false := by rw [beq_eq_false_iff_ne]; omega
    by_cases h4 : m = 4 ∨ m = 6 ∨ m = 9 ∨ m = 11
    · rw [if_pos h4]
      clear h2 e2
      rcases h4 with rfl | rfl | rfl | rfl
      all_goals
        go_enter Tryd.func37, Tryd.ntmps37
        go_wp2
        go_ret
        exact ⟨rfl, rfl⟩
    · rw [if_neg h4]
      have e4 : ((m : Int) == 4) = false := by rw [beq_eq_false_iff_ne]; omega
      have e6 : ((m : Int) == 6) = false := by rw [beq_eq_false_iff_ne]; omega
      have e9 : ((m : Int) == 9) = false := by rw [beq_eq_false_iff_ne]; omega
      have e11 : ((m : Int) == 11) = false := by rw [beq_eq_false_iff_ne]; omega
      clear h2 h4
      go_enter Tryd.func37, Tryd.ntmps37
      go_wp2
      go_ret
      exact ⟨rfl, rfl⟩

set_option maxHeartbeats 400000 in
theorem refWeekday_any (n : Int) (w : World) : Calls Tryd.prog 15 #[.int .i64 n] w fun e w' => e = .returned (.int .i64 (if dayB n then (n + 5) % 7 else -1)) ∧ w = w' := by
  cases h : dayB n with
  | false =>
    have HD := Lib.hid (refDay_any n)
    rw [h] at HD
    clear h
    go_enter Tryd.func15, Tryd.ntmps15
    go_wp2_with fail
    refine (HD.out _).mono ?_
    rintro e w1 ⟨rfl, rfl⟩
    go_wp2_with fail
    go_ret
    exact ⟨rfl, rfl⟩
  | true =>
    have HD := Lib.hid (refDay_any n)
    rw [h] at HD
    obtain ⟨h1, h2⟩ := (dayB_iff n).1 h
    clear h
    go_enter Tryd.func15, Tryd.ntmps15
    go_wp2_with fail
    refine (HD.out _).mono ?_
    rintro e w1 ⟨rfl, rfl⟩
    go_wp2_with fail
    go_ret
    exact ⟨rfl, rfl⟩

/-- The date of a day. -/
def dateV (d : Nat) : Value := .agg #[.int .i64 ((2000 + monthOf d / 12 : Nat) : Int), .int .i64 ((monthOf d % 12 + 1 : Nat) : Int), .int .i64 (domOf d)]
def ofV (n : Int) : Value := if dayB n then dateV n.toNat else .agg #[.int .i64 0, .int .i64 0, .int .i64 0]
def ofE (n : Int) : Int := if dayB n then 0 else 2

set_option maxHeartbeats 800000 in
theorem refOf_day (d : Nat) (hd : d ≤ 36524) (w : World) : Calls Tryd.prog 13 #[.int .i64 d] w fun e w' => e = .returned (.tuple #[dateV d, .int .i64 0]) ∧ Below w.heap.size w w' := by
  have h : dayB d = true := (dayB_iff _).2 (by omega)
  have HD := Lib.hid (refDay_any d)
  rw [h] at HD
  clear h
  go_enter Tryd.func13, Tryd.ntmps13
  go_wp2_with fail
  refine (HD.out _).mono ?_
  rintro e w1 ⟨rfl, rfl⟩
  go_wp2_with fail
  have hB0 : Below w.heap.size w (w.alloc (.cells #[.int .i64 0, .int .i64 0, .int .i64 0] 24)) := (Below.refl _ _).alloc (Nat.le_refl _) _
  have q0 : (w.alloc (.cells #[.int .i64 0, .int .i64 0, .int .i64 0] 24)).cell? ⟨w.heap.size, 0, none⟩ = some (.int .i64 0) ∧ (w.alloc (.cells #[.int .i64 0, .int .i64 0, .int .i64 0] 24)).frozen? ⟨w.heap.size, 0, none⟩ = false := by simp [go_sem]
  have q1 : (w.alloc (.cells #[.int .i64 0, .int .i64 0, .int .i64 0] 24)).cell? ⟨w.heap.size, 1, none⟩ = some (.int .i64 0) ∧ (w.alloc (.cells #[.int .i64 0, .int .i64 0, .int .i64 0] 24)).frozen? ⟨w.heap.size, 1, none⟩ = false := by simp [go_sem]
  have q2 : (w.alloc (.cells #[.int .i64 0, .int .i64 0, .int .i64 0] 24)).cell? ⟨w.heap.size, 2, none⟩ = some (.int .i64 0) ∧ (w.alloc (.cells #[.int .i64 0, .int .i64 0, .int .i64 0] 24)).frozen? ⟨w.heap.size, 2, none⟩ = false := by simp [go_sem]
  generalize w.alloc (.cells #[.int .i64 0, .int .i64 0, .int .i64 0] 24) = W at *
  go_loopw [0, 5, 4] (fun r m y wx => ∃ k q mm yy : Nat, r = .int .i64 q ∧ m = .int .i64 mm ∧ y = .int .i64 yy ∧ Hid (msK k + q = d ∧ mm = k % 12 + 1 ∧ yy = 2000 + k / 12) ∧ wx = W) (fun r _ _ _ => (intOf r).toNat)
  case atStart => exact ⟨0, d, 1, 2000, rfl, rfl, rfl, Lib.hid ⟨by show 0 + d = d; omega, rfl, rfl⟩, rfl⟩
  case round =>
    obtain ⟨k, q, mm, yy, rfl, rfl, rfl, hq, rfl⟩ := hrel
    obtain ⟨z1, z2, z3⟩ := hq.out
    have hk : k ≤ 1200 := by
      by_cases h : k ≤ 1200
      · exact h
      · have := ms_mono (show 1200 ≤ k by omega)
        rw [ms_end] at this
        omega
    have hlen := lenK_bounds k
    have hlk : lenM yy mm = lenK k := by rw [z2, z3]; rfl
    have hL := refLong_any yy mm (by omega) (by omega)
    rw [hlk] at hL
    have HL := Lib.hid hL
    have hms : msK (k + 1) = msK k + lenK k := rfl
    have hmy : mm ≤ 12 ∧ yy ≤ 3000 := by omega
    have hqb : q ≤ 36524 := by omega
    have hmo : Hid (q < lenK k → monthOf d = k ∧ domOf d = q + 1) := Lib.hid (fun h => by
      have := month_of_date (k := k) (m := q + 1) (by omega) (by omega)
      rw [show msK k + (q + 1) - 1 = d by omega] at this
      exact this)
    have hZ := Lib.hid (And.intro z2 z3)
    by_cases hc : lenK k ≤ q
    · have hq2 := Lib.hid (show msK (k + 1) + (q - lenK k) = d by omega)
      have dc : decide ((lenK k : Int) ≤ (q : Int)) = true := decide_eq_true (by omega)
      have dc2 : decide (lenK k ≤ q) = true := decide_eq_true hc
      clear hq hms hlk z1 z2 z3 hL hmo
      generalize lenK k = L at *
      by_cases h12 : mm = 12
      · have d12 : decide (12 < (mm : Int) + 1) = true := decide_eq_true (by omega)
        have hZ2 : Hid (1 = (k + 1) % 12 + 1 ∧ yy + 1 = 2000 + (k + 1) / 12) := Lib.hid (by have := hZ.out; omega)
        clear h12
        go_wp2_with (go_at_call 37; refine (HL.out _).mono ?_; rintro e w1 ⟨rfl, rfl⟩)
        go_roundw
        case rel => exact ⟨k + 1, q - L, 1, yy + 1, int_eq (by omega), rfl, int_eq (by omega), Lib.hid ⟨hq2.out, hZ2.out⟩, by first | rfl | trivial⟩
        case measure => simp [intOf]; omega
      · have d12 : decide (12 < (mm : Int) + 1) = false := decide_eq_false (by omega)
        have hZ2 : Hid (mm + 1 = (k + 1) % 12 + 1 ∧ yy = 2000 + (k + 1) / 12) := Lib.hid (by have := hZ.out; omega)
        clear h12
        go_wp2_with (go_at_call 37; refine (HL.out _).mono ?_; rintro e w1 ⟨rfl, rfl⟩)
        go_roundw
        case rel => exact ⟨k + 1, q - L, mm + 1, yy, int_eq (by omega), int_eq (by omega), rfl, Lib.hid ⟨hq2.out, hZ2.out⟩, by first | rfl | trivial⟩
        case measure => simp [intOf]; omega
    · have dc : decide ((lenK k : Int) ≤ (q : Int)) = false := decide_eq_false (by omega)
      have dc2 : decide (lenK k ≤ q) = false := decide_eq_false hc
      obtain ⟨m1, m2⟩ := hmo.out (by omega)
      have HD2 : Hid (dateV d = .agg #[.int .i64 (yy : Int), .int .i64 (mm : Int), .int .i64 ((q : Int) + 1)]) := Lib.hid (by
        unfold dateV
        rw [m1, m2, ← z2, ← z3]
        rfl)
      clear hq hms hlk z1 z2 z3 hL hmo m1 m2 hZ
      obtain ⟨q00, q01⟩ := q0
      obtain ⟨q10, q11⟩ := q1
      obtain ⟨q20, q21⟩ := q2
      generalize lenK k = L at *
      go_wp2_with (go_at_call 37; refine (HL.out _).mono ?_; rintro e w1 ⟨rfl, rfl⟩)
      have g0 : (((wr.setCell ⟨w.heap.size, 0, none⟩ (.int .i64 (yy : Int))).setCell ⟨w.heap.size, 1, none⟩ (.int .i64 (mm : Int))).setCell ⟨w.heap.size, 2, none⟩ (.int .i64 ((q : Int) + 1))).cell? ⟨w.heap.size, 0, none⟩ = some (.int .i64 (yy : Int)) := by
        rw [World.cell?_setCell_other _ _ _ _ (by simp), World.cell?_setCell_other _ _ _ _ (by simp), World.cell?_setCell_same _ _ _ q00]
      have g1 : (((wr.setCell ⟨w.heap.size, 0, none⟩ (.int .i64 (yy : Int))).setCell ⟨w.heap.size, 1, none⟩ (.int .i64 (mm : Int))).setCell ⟨w.heap.size, 2, none⟩ (.int .i64 ((q : Int) + 1))).cell? ⟨w.heap.size, 1, none⟩ = some (.int .i64 (mm : Int)) := by
        rw [World.cell?_setCell_other _ _ _ _ (by simp)]
        exact World.cell?_setCell_same _ _ _ ((World.cell?_setCell_other _ _ _ _ (by simp)).trans q10)
      have g2 : (((wr.setCell ⟨w.heap.size, 0, none⟩ (.int .i64 (yy : Int))).setCell ⟨w.heap.size, 1, none⟩ (.int .i64 (mm : Int))).setCell ⟨w.heap.size, 2, none⟩ (.int .i64 ((q : Int) + 1))).cell? ⟨w.heap.size, 2, none⟩ = some (.int .i64 ((q : Int) + 1)) :=
        World.cell?_setCell_same _ _ _ ((World.cell?_setCell_other _ _ _ _ (by simp)).trans ((World.cell?_setCell_other _ _ _ _ (by simp)).trans q20))
      have hB3 : Below w.heap.size w (((wr.setCell ⟨w.heap.size, 0, none⟩ (.int .i64 (yy : Int))).setCell ⟨w.heap.size, 1, none⟩ (.int .i64 (mm : Int))).setCell ⟨w.heap.size, 2, none⟩ (.int .i64 ((q : Int) + 1))) := ((hB0.setCell (Nat.le_refl _) _).setCell (Nat.le_refl _) _).setCell (Nat.le_refl _) _
      simp [bodyPost, results, Tryd.results13, go_sem, g0, g1, g2]
      exact ⟨HD2.out.symm, hB3⟩

set_option maxHeartbeats 400000 in
theorem refOf_any (n : Int) (w : World) : Calls Tryd.prog 13 #[.int .i64 n] w fun e w' => e = .returned (.tuple #[ofV n, .int .i64 (ofE n)]) ∧ Below w.heap.size w w' := by
  cases h : dayB n with
  | true =>
    obtain ⟨h1, h2⟩ := (dayB_iff n).1 h
    have := refOf_day n.toNat (by omega) w
    rw [show ((n.toNat : Nat) : Int) = n by omega] at this
    unfold ofV ofE
    rw [h]
    exact this
  | false =>
    have e1 : ofV n = .agg #[.int .i64 0, .int .i64 0, .int .i64 0] := by unfold ofV; rw [h]; rfl
    have e2 : ofE n = 2 := by unfold ofE; rw [h]; rfl
    rw [e1, e2]
    have HD := Lib.hid (refDay_any n)
    rw [h] at HD
    clear h e1 e2
    go_enter Tryd.func13, Tryd.ntmps13
    go_wp2_with fail
    refine (HD.out _).mono ?_
    rintro e w1 ⟨rfl, rfl⟩
    go_wp2_with fail
    simp [bodyPost, results, Tryd.results13, go_sem]
    exact (Below.refl _ _).alloc (Nat.le_refl _) _
end Go.Proofs.YtnegiopbccllcaaDoor
