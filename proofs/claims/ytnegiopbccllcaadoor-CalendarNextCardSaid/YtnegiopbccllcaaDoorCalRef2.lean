/- What Number and AddMonths of the reference of layer 4 return, for every input. No condition. -/
import Derived.Test.YtnegiopbccllcaaDoorCalRef
import Derived.Handy
namespace Go.Proofs.YtnegiopbccllcaaDoor
open Go.RowKit

/-- Is there such a date from 2000 to 2099? -/
def dateOk (Y M D : Int) : Prop := 2000 ≤ Y ∧ Y ≤ 2099 ∧ 1 ≤ M ∧ M ≤ 12 ∧ 1 ≤ D ∧ D ≤ (lenM Y.toNat M.toNat : Int)
instance (Y M D : Int) : Decidable (dateOk Y M D) := by unfold dateOk; infer_instance
/-- The month of a date, counted from January 2000 on. -/
def monthNo (Y M : Int) : Nat := 12 * (Y.toNat - 2000) + (M.toNat - 1)
def numV (Y M D : Int) : Int := if dateOk Y M D then ((msK (monthNo Y M) + D.toNat - 1 : Nat) : Int) else 0
def numE (Y M D : Int) : Int := if dateOk Y M D then 0 else 2

set_option maxHeartbeats 800000 in
theorem refNumber_bad (Y M D : Int) (h : ¬ dateOk Y M D) (w : World) : Calls Tryd.prog 19 #[.agg #[.int .i64 Y, .int .i64 M, .int .i64 D]] w fun e w' => e = .returned (.tuple #[.int .i64 0, .int .i64 2]) ∧ Below w.heap.size w w' := by
  unfold dateOk at h
  by_cases c1 : Y < 2000
  · clear h
    have d1 : decide (Y < 2000) = true := decide_eq_true c1
    go_enter Tryd.func19, Tryd.ntmps19
    go_wp2_with fail
    go_quiet (fail)
    go_wp2_with fail
    go_ret2
    exact ⟨rfl, below_drewN ((Below.refl _ _).alloc (Nat.le_refl _) _) _⟩
  have d1 : decide (Y < 2000) = false := decide_eq_false c1
  by_cases c2 : 2099 < Y
  · clear h
    have d2 : decide (2099 < Y) = true := decide_eq_true c2
    go_enter Tryd.func19, Tryd.ntmps19
    go_wp2_with fail
    go_quiet (fail)
    go_wp2_with fail
    go_ret2
    exact ⟨rfl, below_drewN ((Below.refl _ _).alloc (Nat.le_refl _) _) _⟩
  have d2 : decide (2099 < Y) = false := decide_eq_false c2
  by_cases c3 : M < 1
  · clear h
    have d3 : decide (M < 1) = true := decide_eq_true c3
    go_enter Tryd.func19, Tryd.ntmps19
    go_wp2_with fail
    go_quiet (fail)
    go_wp2_with fail
    go_ret2
    exact ⟨rfl, below_drewN ((Below.refl _ _).alloc (Nat.le_refl _) _) _⟩
  have d3 : decide (M < 1) = false := decide_eq_false c3
  by_cases c4 : 12 < M
  · clear h
    have d4 : decide (12 < M) = true := decide_eq_true c4
    go_enter Tryd.func19, Tryd.ntmps19
    go_wp2_with fail
    go_quiet (fail)
    go_wp2_with fail
    go_ret2
    exact ⟨rfl, below_drewN ((Below.refl _ _).alloc (Nat.le_refl _) _) _⟩
  have d4 : decide (12 < M) = false := decide_eq_false c4
  by_cases c5 : D < 1
  · clear h
    have d5 : decide (D < 1) = true := decide_eq_true c5
    go_enter Tryd.func19, Tryd.ntmps19
    go_wp2_with fail
    go_quiet (fail)
    go_wp2_with fail
    go_ret2
    exact ⟨rfl, below_drewN ((Below.refl _ _).alloc (Nat.le_refl _) _) _⟩
  have d5 : decide (D < 1) = false := decide_eq_false c5
  obtain ⟨y, rfl⟩ := Int.eq_ofNat_of_zero_le (show 0 ≤ Y by omega)
  obtain ⟨m, rfl⟩ := Int.eq_ofNat_of_zero_le (show 0 ≤ M by omega)
  have HL := Lib.hid (fun w => (refLong_any y m (by omega) (by omega) w).mono fun _ _ h => (⟨h.1, h.2.symm⟩ : _ ∧ _))
  have hd : (lenM y m : Int) < D := by
    simp only [Int.toNat_natCast] at h
    omega
  clear h
  generalize lenM y m = L at *
  have d6 : decide ((L : Int) < D) = true := decide_eq_true hd
  go_enter Tryd.func19, Tryd.ntmps19
  go_wp2_with fail
  go_quiet ((go_at_call 37; refine Calls.quiet_of_same (HL.out _)))
  go_wp2_with fail
  go_ret2
  exact ⟨rfl, below_drewN ((Below.refl _ _).alloc (Nat.le_refl _) _) _⟩

set_option maxRecDepth 100000 in
set_option maxHeartbeats 1600000 in
theorem refNumber_ok (y m d : Nat) (h1 : 2000 ≤ y ∧ y ≤ 2099) (h2 : 1 ≤ m ∧ m ≤ 12) (h3 : 1 ≤ d ∧ d ≤ lenM y m) (w : World) :
    Calls Tryd.prog 19 #[.agg #[.int .i64 y, .int .i64 m, .int .i64 d]] w fun e w' => e = .returned (.tuple #[.int .i64 ((msK (12 * (y - 2000) + (m - 1)) + d - 1 : Nat) : Int), .int .i64 0]) ∧ Below w.heap.size w w' := by
  have hlb := lenM_bounds y m
  obtain ⟨h11, h12⟩ := h1
  obtain ⟨h21, h22⟩ := h2
  obtain ⟨h31, h32⟩ := h3
  have HL := Lib.hid (fun w => (refLong_any y m (by omega) (by omega) w).mono fun _ _ h => (⟨h.1, h.2.symm⟩ : _ ∧ _))
  have HLy := Lib.hid (fun (a : Nat) (h : a ≤ 3000) => refLong_any a 2 (by omega) (by omega))
  have HLm := Lib.hid (fun (a : Nat) (h : a ≤ 3000) => refLong_any y a (by omega) (by omega))
  have d1 : decide ((y : Int) < 2000) = false := decide_eq_false (by omega)
  have d2 : decide (2099 < (y : Int)) = false := decide_eq_false (by omega)
  have d3 : decide ((m : Int) < 1) = false := decide_eq_false (by omega)
  have d4 : decide (12 < (m : Int)) = false := decide_eq_false (by omega)
  have d5 : decide ((d : Int) < 1) = false := decide_eq_false (by omega)
  have d6 : decide ((lenM y m : Int) < (d : Int)) = false := decide_eq_false (by omega)
  generalize hgl : lenM y m = L at *
  clear hgl
  go_enter Tryd.func19, Tryd.ntmps19
  go_wp2_with fail
  go_quiet ((go_at_call 37; refine Calls.quiet_of_same (HL.out _)))
  go_wp2_with fail
  have hB0 : Below w.heap.size w ((w.alloc (.cells #[.int .i64 (y : Int), .int .i64 (m : Int), .int .i64 (d : Int)] 24)).drewN nq) := below_drewN ((Below.refl _ _).alloc (Nat.le_refl _) _) _
  have q0 : ((w.alloc (.cells #[.int .i64 (y : Int), .int .i64 (m : Int), .int .i64 (d : Int)] 24)).drewN nq).cell? ⟨w.heap.size, 0, none⟩ = some (.int .i64 (y : Int)) := by simp [go_sem]
  have q1 : ((w.alloc (.cells #[.int .i64 (y : Int), .int .i64 (m : Int), .int .i64 (d : Int)] 24)).drewN nq).cell? ⟨w.heap.size, 1, none⟩ = some (.int .i64 (m : Int)) := by simp [go_sem]
  generalize (w.alloc (.cells #[.int .i64 (y : Int), .int .i64 (m : Int), .int .i64 (d : Int)] 24)).drewN nq = W at *
  rw [show decide (L < d) = false from decide_eq_false (by omega)]
  clear HL d1 d2 d3 d4 d5 d6
  go_loopw [4, 5] (fun p i wx => ∃ j : Nat, 2000 + j ≤ y ∧ i = .int .i64 ((2000 : Int) + (j : Int)) ∧ ∃ P : Nat, p = .int .i64 (P : Int) ∧ Hid (P = msK (12 * j) + d - 1) ∧ wx = W) (fun _ i _ => y - (intOf i).toNat)
  case atStart => exact ⟨0, by omega, by simp, d - 1, int_eq (by omega), Lib.hid (by show d - 1 = 0 + d - 1; omega), by first | rfl | trivial⟩
  case round =>
    obtain ⟨j, hj, rfl, P, rfl, hP, rfl⟩ := hrel
    have hPb : P ≤ 40000 := by
      have h1 := hP.out
      have h2 := ms_mono (show 12 * j ≤ 1200 by omega)
      rw [ms_end] at h2
      omega
    by_cases hlt : 2000 + j < y
    · have HY := Lib.hid (refLong_any (2000 + j) 2 (by omega) (by omega))
      have hly := lenM_bounds (2000 + j) 2
      have hP2 := Lib.hid (show P + (337 + lenM (2000 + j) 2) = msK (12 * (j + 1)) + d - 1 by rw [ms_year]; have := hP.out; omega)
      rw [show ((2000 + j : Nat) : Int) = (2000 : Int) + (j : Int) by omega] at HY
      clear hP HLy HLm
      generalize lenM (2000 + j) 2 = L2 at *
      have d1 : decide ((2000 : Int) + (j : Int) < (y : Int)) = true := decide_eq_true (by omega)
      go_wp2_with fail
      refine (HY.out _).mono ?_
      rintro e w1 ⟨rfl, rfl⟩
      go_wp2_with fail
      go_roundw
      case rel => exact ⟨j + 1, by omega, int_eq (by omega), P + (337 + L2), int_eq (by omega), hP2, by first | rfl | trivial⟩
      case measure => simp [intOf]; omega
    · have hjy : 2000 + j = y := by omega
      have hmj : 12 * j = 12 * (y - 2000) := by omega
      have hP3 := Lib.hid (show P = msK (12 * (y - 2000) + 0) + d - 1 by rw [← hmj]; exact hP.out)
      have d1 : decide ((2000 : Int) + (j : Int) < (y : Int)) = false := decide_eq_false (by omega)
      clear hP hlt HLy hmj
      go_wp2_with fail
      go_loopw [4, 6] (fun p i wx => ∃ j : Nat, 1 + j ≤ m ∧ i = .int .i64 ((1 : Int) + (j : Int)) ∧ ∃ P : Nat, p = .int .i64 (P : Int) ∧ Hid (P = msK (12 * (y - 2000) + j) + d - 1) ∧ wx = wr) (fun _ i _ => m - (intOf i).toNat)
      case atStart => exact ⟨0, by omega, by simp, P, rfl, hP3, by first | rfl | trivial⟩
      case round =>
        obtain ⟨i, hi, rfl, R, rfl, hR, rfl⟩ := hrel
        have hRb : R ≤ 40000 := by
          have h1 := hR.out
          have h2 := ms_mono (show 12 * (y - 2000) + i ≤ 1200 by omega)
          rw [ms_end] at h2
          omega
        by_cases hlt : 1 + i < m
        · have HY := Lib.hid (refLong_any y (1 + i) (by omega) (by omega))
          have hly := lenM_bounds y (1 + i)
          have hR2 := Lib.hid (show R + lenM y (1 + i) = msK (12 * (y - 2000) + (i + 1)) + d - 1 by
            have h1 := ms_month (y - 2000) (i + 1) (by omega) (by omega)
            rw [show i + 1 - 1 = i by omega, show 2000 + (y - 2000) = y by omega, show i + 1 = 1 + i by omega] at h1
            rw [show i + 1 = 1 + i by omega, h1]
            have := hR.out
            omega)
          rw [show ((1 + i : Nat) : Int) = (1 : Int) + (i : Int) by omega] at HY
          clear hR hP3
          generalize lenM y (1 + i) = L2 at *
          have d2 : decide ((1 : Int) + (i : Int) < (m : Int)) = true := decide_eq_true (by omega)
          go_wp2_with fail
          refine (HY.out _).mono ?_
          rintro e w1 ⟨rfl, rfl⟩
          go_wp2_with fail
          go_roundw
          case rel => exact ⟨i + 1, by omega, int_eq (by omega), R + L2, int_eq (by omega), hR2, by first | rfl | trivial⟩
          case measure => simp [intOf]; omega
        · have hmi : i = m - 1 := by omega
          have hR3 := Lib.hid (show R = msK (12 * (y - 2000) + (m - 1)) + d - 1 by rw [← hmi]; exact hR.out)
          have d2 : decide ((1 : Int) + (i : Int) < (m : Int)) = false := decide_eq_false (by omega)
          clear hR hlt hP3
          go_wp2_with fail
          go_ret2
          have e := hR3.out
          clear hR3
          subst e
          exact ⟨rfl, hB0⟩

theorem num_ok {Y M D : Int} (h : dateOk Y M D) : numV Y M D = ((msK (monthNo Y M) + D.toNat - 1 : Nat) : Int) ∧ numE Y M D = 0 := ⟨if_pos h, if_pos h⟩
theorem num_bad {Y M D : Int} (h : ¬ dateOk Y M D) : numV Y M D = 0 ∧ numE Y M D = 2 := ⟨if_neg h, if_neg h⟩
theorem refNumber_any (Y M D : Int) (w : World) : Calls Tryd.prog 19 #[.agg #[.int .i64 Y, .int .i64 M, .int .i64 D]] w fun e w' => e = .returned (.tuple #[.int .i64 (numV Y M D), .int .i64 (numE Y M D)]) ∧ Below w.heap.size w w' := by
  by_cases h : dateOk Y M D
  · rw [(num_ok h).1, (num_ok h).2]
    unfold dateOk at h
    unfold monthNo
    obtain ⟨y, rfl⟩ := Int.eq_ofNat_of_zero_le (show 0 ≤ Y by omega)
    obtain ⟨m, rfl⟩ := Int.eq_ofNat_of_zero_le (show 0 ≤ M by omega)
    obtain ⟨d, rfl⟩ := Int.eq_ofNat_of_zero_le (show 0 ≤ D by omega)
    simp only [Int.toNat_natCast] at h ⊢
    exact refNumber_ok y m d (by omega) (by omega) (by omega) w
  · rw [(num_bad h).1, (num_bad h).2]
    exact refNumber_bad Y M D h w
/-- A date of a month counted from January 2000 on. -/
theorem date_ok (k : Nat) (D : Nat) (hk : k < 1200) (h1 : 1 ≤ D) (h2 : D ≤ lenK k) : dateOk ((2000 + k / 12 : Nat) : Int) ((k % 12 + 1 : Nat) : Int) D := by
  unfold dateOk
  simp only [Int.toNat_natCast]
  have : lenM (2000 + k / 12) (k % 12 + 1) = lenK k := rfl
  omega
theorem month_no (k : Nat) : monthNo ((2000 + k / 12 : Nat) : Int) ((k % 12 + 1 : Nat) : Int) = k := by
  unfold monthNo
  simp only [Int.toNat_natCast]
  omega
end Go.Proofs.YtnegiopbccllcaaDoor
