/- What AddMonths of the reference of layer 4 returns, for every input. No condition. -/
import Derived.Test.YtnegiopbccllcaaDoorCalRef2
import Derived.Deep.RegionWith
namespace Go.Proofs.YtnegiopbccllcaaDoor
open Go.RowKit

/-- The month that AddMonths reaches. -/
def amK (day n : Int) : Int := (monthOf day.toNat : Int) + n
def amBad (day n : Int) : Bool := !dayB day || (decide (n < -1200) || decide (1200 < n))
def amIn (day n : Int) : Bool := decide (0 ≤ amK day n) && decide (amK day n < 1200)
def amV (day n : Int) : Int := if amBad day n then 0 else if amIn day n then (amDay day.toNat (amK day n).toNat : Int) else 0
def amE (day n : Int) : Int := if amBad day n then 2 else if amIn day n then 0 else 3

set_option maxRecDepth 100000 in
set_option maxHeartbeats 1600000 in
theorem refAddMonths_day (d : Nat) (hd : d ≤ 36524) (n : Int) (h1 : -1200 ≤ n) (h2 : n ≤ 1200) (w : World) :
    Calls Tryd.prog 21 #[.int .i64 d, .int .i64 n] w fun e w' =>
      e = .returned (.tuple #[.int .i64 (if amIn d n then (amDay d (amK d n).toNat : Int) else 0), .int .i64 (if amIn d n then 0 else 3)]) ∧ Below w.heap.size w w' := by
  have hm := month_lt hd
  have hdb := dom_bounds d
  have hdl := lenK_bounds (monthOf d)
  obtain ⟨kk, hkk⟩ := Int.eq_ofNat_of_zero_le (show 0 ≤ 24000 + (monthOf d : Int) + n by omega)
  have hkb : 22800 ≤ kk ∧ kk ≤ 26400 := by omega
  have hOf := Lib.hid (fun w => refOf_day d hd w)
  have hD : dateV d = .agg #[.int .i64 ((2000 + monthOf d / 12 : Nat) : Int), .int .i64 ((monthOf d % 12 + 1 : Nat) : Int), .int .i64 (domOf d)] := rfl
  rw [hD] at hOf
  clear hD
  have hsum : 12 * ((2000 + monthOf d / 12 : Nat) : Int) + ((monthOf d % 12 + 1 : Nat) : Int) - 1 + n = kk := by omega
  have hb : (2000 + monthOf d / 12) ≤ 2099 ∧ (monthOf d % 12 + 1) ≤ 12 := by omega
  have hL := Lib.hid (refLong_any (kk / 12) (kk % 12 + 1) (by omega) (by omega))
  have hN := Lib.hid (fun D => refNumber_any ((kk / 12 : Nat) : Int) ((kk % 12 + 1 : Nat) : Int) D)
  have hlb := lenM_bounds (kk / 12) (kk % 12 + 1)
  have hnum : Hid (numV ((kk / 12 : Nat) : Int) ((kk % 12 + 1 : Nat) : Int) ((min (domOf d) (lenM (kk / 12) (kk % 12 + 1)) : Nat) : Int) = (if amIn d n then (amDay d (amK d n).toNat : Int) else 0)
      ∧ numE ((kk / 12 : Nat) : Int) ((kk % 12 + 1 : Nat) : Int) ((min (domOf d) (lenM (kk / 12) (kk % 12 + 1)) : Nat) : Int) = (if amIn d n then 0 else 2)) := Lib.hid (by
    have hK : amK d n = (monthOf d : Int) + n := rfl
    by_cases hin : 24000 ≤ kk ∧ kk < 25200
    · have e1 : amIn d n = true := by unfold amIn; rw [hK]; simp; omega
      rw [if_pos e1, if_pos e1]
      obtain ⟨k, rfl⟩ : ∃ k, kk = 24000 + k := ⟨kk - 24000, by omega⟩
      have e2 : (amK d n).toNat = k := by rw [hK]; omega
      have e3 : (24000 + k) / 12 = 2000 + k / 12 := by omega
      have e4 : (24000 + k) % 12 = k % 12 := by omega
      rw [e2, e3, e4]
      have hlk : lenM (2000 + k / 12) (k % 12 + 1) = lenK k := rfl
      rw [hlk]
      have hlk2 := lenK_bounds k
      have ok := date_ok k (min (domOf d) (lenK k)) (by omega) (by omega) (by omega)
      rw [(num_ok ok).1, (num_ok ok).2, month_no]
      refine ⟨?_, rfl⟩
      unfold amDay
      simp only [Int.toNat_natCast]
    · have e1 : ¬ amIn d n = true := by unfold amIn; rw [hK]; simp; omega
      rw [if_neg e1, if_neg e1]
      have hbad : ¬ dateOk ((kk / 12 : Nat) : Int) ((kk % 12 + 1 : Nat) : Int) ((min (domOf d) (lenM (kk / 12) (kk % 12 + 1)) : Nat) : Int) := by
        unfold dateOk
        omega
      exact num_bad hbad)
  generalize lenM (kk / 12) (kk % 12 + 1) = L at *
  generalize 2000 + monthOf d / 12 = yy at *
  generalize monthOf d % 12 + 1 = mm at *
  have hdd : 1 ≤ domOf d ∧ domOf d ≤ 31 := by omega
  clear hdb hdl
  generalize domOf d = D at *
  generalize hA : (if amIn d n then (amDay d (amK d n).toNat : Int) else 0) = A at *
  have hEF : Hid (((if amIn d n then (0 : Int) else 3) = 0 ∧ (if amIn d n then (0 : Int) else 2) = 0) ∨ ((if amIn d n then (0 : Int) else 3) = 3 ∧ (if amIn d n then (0 : Int) else 2) = 2 ∧ A = 0)) := Lib.hid (by
    by_cases h : amIn d n = true
    · simp [h]
    · rw [if_neg h] at hA
      simp [h, ← hA])
  clear hA
  generalize (if amIn d n then (0 : Int) else 3) = E at *
  generalize (if amIn d n then (0 : Int) else 2) = F at *
  have d0 : decide (n < -1200) = false := decide_eq_false (by omega)
  have d1 : decide (1200 < n) = false := decide_eq_false (by omega)
  clear hm hkk
  have hq : ((kk / 12 : Nat) : Int) = (kk : Int) / 12 := by omega
  have hr : ((kk % 12 + 1 : Nat) : Int) = (kk : Int) % 12 + 1 := by omega
  simp only [hq, hr] at hL hN hnum
  clear hq hr
  have hqb : 1900 ≤ (kk : Int) / 12 ∧ (kk : Int) / 12 ≤ 2200 := by omega
  have hrb : 0 ≤ (kk : Int) % 12 ∧ (kk : Int) % 12 ≤ 11 := by omega
  go_enter Tryd.func21, Tryd.ntmps21
  go_wp2_with fail
  refine (hOf.out _).mono ?_
  rintro e w1 ⟨rfl, hB1⟩
  go_wp2_with fail
  have hB2 : Below w.heap.size w (w1.alloc (.cells #[.int .i64 ((kk : Int) / 12), .int .i64 ((kk : Int) % 12 + 1), .int .i64 (D : Int)] 24)) := hB1.alloc hB1.size _
  have hBs : w.heap.size ≤ w1.heap.size := hB1.size
  have q0 : (w1.alloc (.cells #[.int .i64 ((kk : Int) / 12), .int .i64 ((kk : Int) % 12 + 1), .int .i64 (D : Int)] 24)).cell? ⟨w1.heap.size, 0, none⟩ = some (.int .i64 ((kk : Int) / 12)) := by simp [go_sem]
  have q1 : (w1.alloc (.cells #[.int .i64 ((kk : Int) / 12), .int .i64 ((kk : Int) % 12 + 1), .int .i64 (D : Int)] 24)).cell? ⟨w1.heap.size, 1, none⟩ = some (.int .i64 ((kk : Int) % 12 + 1)) := by simp [go_sem]
  have q2 : (w1.alloc (.cells #[.int .i64 ((kk : Int) / 12), .int .i64 ((kk : Int) % 12 + 1), .int .i64 (D : Int)] 24)).cell? ⟨w1.heap.size, 2, none⟩ = some (.int .i64 (D : Int)) ∧ (w1.alloc (.cells #[.int .i64 ((kk : Int) / 12), .int .i64 ((kk : Int) % 12 + 1), .int .i64 (D : Int)] 24)).frozen? ⟨w1.heap.size, 2, none⟩ = false := by simp [go_sem]
  generalize w1.alloc (.cells #[.int .i64 ((kk : Int) / 12), .int .i64 ((kk : Int) % 12 + 1), .int .i64 (D : Int)] 24) = W at *
  generalize w1.heap.size = B at *
  go_region_with (go_at_call 37; refine (hL.out _).mono ?_; rintro e w' ⟨rfl, rfl⟩)
  all_goals
    have hmin : (if L < D then (L : Int) else (D : Int)) = ((min D L : Nat) : Int) := by split <;> omega
    rw [hmin]
    clear hmin
    have g0 : (W.setCell ⟨B, 2, none⟩ (.int .i64 ((min D L : Nat) : Int))).cell? ⟨B, 0, none⟩ = some (.int .i64 ((kk : Int) / 12)) := (World.cell?_setCell_other _ _ _ _ (by simp)).trans q0
    have g1 : (W.setCell ⟨B, 2, none⟩ (.int .i64 ((min D L : Nat) : Int))).cell? ⟨B, 1, none⟩ = some (.int .i64 ((kk : Int) % 12 + 1)) := (World.cell?_setCell_other _ _ _ _ (by simp)).trans q1
    have g2 : (W.setCell ⟨B, 2, none⟩ (.int .i64 ((min D L : Nat) : Int))).cell? ⟨B, 2, none⟩ = some (.int .i64 ((min D L : Nat) : Int)) := World.cell?_setCell_same _ _ _ q2.1
    have hB3 : Below w.heap.size w (W.setCell ⟨B, 2, none⟩ (.int .i64 ((min D L : Nat) : Int))) := hB2.setCell hBs _
    generalize W.setCell ⟨B, 2, none⟩ (.int .i64 ((min D L : Nat) : Int)) = W3 at *
    generalize min D L = mi at *
    obtain ⟨hn1, hn2⟩ := hnum.out
    have HN := Lib.hid (fun w => hN.out mi w)
    rw [hn1, hn2] at HN
    clear hn1 hn2 hN hnum q0 q1 q2 hL hOf hB1 hB2
    rcases hEF.out with ⟨rfl, rfl⟩ | ⟨rfl, rfl, rfl⟩
    · go_wp2_with fail
      refine (HN.out _).mono ?_
      rintro e w4 ⟨rfl, hB4⟩
      go_wp2_with fail
      go_ret2
      exact ⟨rfl, hB3.drew.trans (hB4.mono hB3.drew.size)⟩
    · go_wp2_with fail
      refine (HN.out _).mono ?_
      rintro e w4 ⟨rfl, hB4⟩
      go_wp2_with fail
      go_ret2
      exact ⟨rfl, hB3.drew.trans (hB4.mono hB3.drew.size)⟩

set_option maxRecDepth 100000 in
set_option maxHeartbeats 800000 in
theorem refAddMonths_bad (x n : Int) (h : amBad x n = true) (w : World) :
    Calls Tryd.prog 21 #[.int .i64 x, .int .i64 n] w fun e w' => e = .returned (.tuple #[.int .i64 0, .int .i64 2]) ∧ Below w.heap.size w w' := by
  cases hd : dayB x with
  | false =>
    have e1 : ofV x = .agg #[.int .i64 0, .int .i64 0, .int .i64 0] := by unfold ofV; rw [hd]; rfl
    have e2 : ofE x = 2 := by unfold ofE; rw [hd]; rfl
    have hOf := Lib.hid (refOf_any x)
    rw [e1, e2] at hOf
    clear h hd e1 e2
    go_enter Tryd.func21, Tryd.ntmps21
    go_wp2_with fail
    refine (hOf.out _).mono ?_
    rintro e w1 ⟨rfl, hB1⟩
    go_wp2_with fail
    go_ret2
    exact ⟨rfl, hB1.alloc hB1.size _⟩
  | true =>
    have hc : (decide (n < -1200) || decide (1200 < n)) = true := by
      unfold amBad at h
      rw [hd] at h
      exact h
    obtain ⟨h1, h2⟩ := (dayB_iff x).1 hd
    clear h hd
    obtain ⟨d, rfl⟩ := Int.eq_ofNat_of_zero_le h1
    have hOf := Lib.hid (fun w => refOf_day d (by omega) w)
    have hD : dateV d = .agg #[.int .i64 ((2000 + monthOf d / 12 : Nat) : Int), .int .i64 ((monthOf d % 12 + 1 : Nat) : Int), .int .i64 (domOf d)] := rfl
    rw [hD] at hOf
    clear hD
    generalize 2000 + monthOf d / 12 = yy at *
    generalize monthOf d % 12 + 1 = mm at *
    generalize domOf d = D at *
    by_cases c1 : n < -1200
    · have d1 : decide (n < -1200) = true := decide_eq_true c1
      clear hc
      go_enter Tryd.func21, Tryd.ntmps21
      go_wp2_with fail
      refine (hOf.out _).mono ?_
      rintro e w1 ⟨rfl, hB1⟩
      go_wp2_with fail
      go_ret2
      exact ⟨rfl, hB1.alloc hB1.size _⟩
    · have d1 : decide (n < -1200) = false := decide_eq_false c1
      have d2 : decide (1200 < n) = true := by rw [d1] at hc; exact hc
      clear hc
      go_enter Tryd.func21, Tryd.ntmps21
      go_wp2_with fail
      refine (hOf.out _).mono ?_
      rintro e w1 ⟨rfl, hB1⟩
      go_wp2_with fail
      go_ret2
      exact ⟨rfl, hB1.alloc hB1.size _⟩

theorem refAddMonths_any (x n : Int) (w : World) :
    Calls Tryd.prog 21 #[.int .i64 x, .int .i64 n] w fun e w' => e = .returned (.tuple #[.int .i64 (amV x n), .int .i64 (amE x n)]) ∧ Below w.heap.size w w' := by
  cases h : amBad x n with
  | true =>
    have e1 : amV x n = 0 := if_pos h
    have e2 : amE x n = 2 := if_pos h
    rw [e1, e2]
    exact refAddMonths_bad x n h w
  | false =>
    have hn : ¬ amBad x n = true := by rw [h]; simp
    have e1 : amV x n = if amIn x n then (amDay x.toNat (amK x n).toNat : Int) else 0 := if_neg hn
    have e2 : amE x n = if amIn x n then 0 else 3 := if_neg hn
    rw [e1, e2]
    unfold amBad at h
    simp only [Bool.or_eq_false_iff, decide_eq_false_iff_not, Bool.not_eq_false'] at h
    obtain ⟨h1, h2, h3⟩ := h
    obtain ⟨h4, h5⟩ := (dayB_iff x).1 h1
    obtain ⟨d, rfl⟩ := Int.eq_ofNat_of_zero_le h4
    exact refAddMonths_day d (by omega) n (by omega) (by omega) w
end Go.Proofs.YtnegiopbccllcaaDoor
