/- The law CalendarNext, walked: it returns true at every input. No condition. -/
import Derived.Test.YtnegiopbccllcaaDoorCalDatesWalk
namespace Go.Proofs.YtnegiopbccllcaaDoor
open Go.RowKit

/-- The date of the next day. -/
theorem next_date (d : Nat) (hd : d ≤ 36523) : ∃ Y M D Y2 M2 D2 : Nat, ofV (d : Int) = .agg #[.int .i64 (Y : Int), .int .i64 (M : Int), .int .i64 (D : Int)] ∧ ofV ((d : Int) + 1) = .agg #[.int .i64 (Y2 : Int), .int .i64 (M2 : Int), .int .i64 (D2 : Int)] ∧
    (1 ≤ D ∧ Y ≤ 2099 ∧ M ≤ 12 ∧ D ≤ 31) ∧ ((Y2 = Y ∧ M2 = M ∧ D2 = D + 1) ∨ (Y2 = Y ∧ M2 = M + 1 ∧ D2 = 1 ∧ 28 ≤ D) ∨ (Y2 = Y + 1 ∧ M = 12 ∧ M2 = 1 ∧ D2 = 1 ∧ 28 ≤ D)) := by
  have h1 : dayB (d : Int) = true := (dayB_iff _).2 (by omega)
  have h2 : dayB ((d : Int) + 1) = true := (dayB_iff _).2 (by omega)
  have e1 : ofV (d : Int) = dateV d := if_pos h1
  have e2 : ofV ((d : Int) + 1) = dateV (d + 1) := (if_pos h2).trans (by rw [show ((d : Int) + 1).toNat = d + 1 by omega])
  refine ⟨_, _, _, _, _, _, e1, e2, ?_, ?_⟩
  · have := dom_bounds d
    have := lenK_bounds (monthOf d)
    have := month_lt (d := d) (by omega)
    omega
  · have := lenK_bounds (monthOf d)
    rcases next_day d with ⟨h3, h4, h5⟩ | ⟨h3, h4, h5⟩
    · rw [h4, h5]
      exact .inl ⟨rfl, rfl, rfl⟩
    · rw [h4, h5]
      by_cases h : monthOf d % 12 = 11
      · exact .inr (.inr (by omega))
      · exact .inr (.inl (by omega))

set_option maxHeartbeats 1600000 in
theorem calendarNext_walk {w : World} (hT : CalTab w) (n0 : Int) : Calls Tryd.prog 5 #[.int .i64 n0] w fun e w' => e = .returned (.bool true) ∧ Below w.heap.size w w' := by
  have HW := Lib.hid (madeWithin_any n0 36524 (by omega) (by omega))
  have hb := (show 0 ≤ n0 % 36524 ∧ n0 % 36524 < 36524 by omega)
  generalize n0 % 36524 = x at *
  obtain ⟨d, rfl⟩ := Int.eq_ofNat_of_zero_le hb.1
  obtain ⟨Y, M, D, Y2, M2, D2, v1, v2, hyb, hst⟩ := next_date d (by omega)
  have H1 := Lib.hid (fun w1 (h : CalTab w1) => calOf_any d w1 h)
  have H2 := Lib.hid (fun w1 (h : CalTab w1) => calOf_any ((d : Int) + 1) w1 h)
  have H3 := Lib.hid (calWeekday_any d)
  have H4 := Lib.hid (calWeekday_any ((d : Int) + 1))
  have h1 : dayB (d : Int) = true := (dayB_iff _).2 (by omega)
  have h2 : dayB ((d : Int) + 1) = true := (dayB_iff _).2 (by omega)
  rw [v1, show ofE (d : Int) = 0 from if_pos h1] at H1
  rw [v2, show ofE ((d : Int) + 1) = 0 from if_pos h2] at H2
  rw [if_pos h1] at H3
  rw [if_pos h2] at H4
  have hw : (((d : Int) + 5) % 7 + 1) % 7 = ((d : Int) + 1 + 5) % 7 := by omega
  have hwb : 0 ≤ ((d : Int) + 5) % 7 ∧ ((d : Int) + 5) % 7 ≤ 6 := by omega
  clear v1 v2 h1 h2
  have hwe : (((d : Int) + 1 + 5) % 7 != (((d : Int) + 5) % 7 + 1) % 7) = false := by rw [hw]; simp
  clear hw
  generalize ((d : Int) + 1 + 5) % 7 = W2d at *
  generalize ((d : Int) + 5) % 7 = W1d at *
  go_enter Tryd.func5, Tryd.ntmps5
  go_wp2_with fail
  refine (HW.out _).mono ?_
  rintro e w1 ⟨rfl, rfl⟩
  go_wp2_with fail
  refine (H1.out _ (by first | exact hT.keep (by assumption) | exact hTb.keep (by assumption) | exact hTb | exact hT)).mono ?_
  rintro e w1 ⟨rfl, hB1⟩
  go_wp2_with fail
  have hs1 : w1.heap.size < (w1.alloc (.cells #[.int .i64 (Y : Int), .int .i64 (M : Int), .int .i64 (D : Int)] 24)).heap.size := by simp [go_sem]
  have q0 : (w1.alloc (.cells #[.int .i64 (Y : Int), .int .i64 (M : Int), .int .i64 (D : Int)] 24)).cell? ⟨w1.heap.size, 0, none⟩ = some (.int .i64 (Y : Int)) := by simp [go_sem]
  have q1 : (w1.alloc (.cells #[.int .i64 (Y : Int), .int .i64 (M : Int), .int .i64 (D : Int)] 24)).cell? ⟨w1.heap.size, 1, none⟩ = some (.int .i64 (M : Int)) := by simp [go_sem]
  have q2 : (w1.alloc (.cells #[.int .i64 (Y : Int), .int .i64 (M : Int), .int .i64 (D : Int)] 24)).cell? ⟨w1.heap.size, 2, none⟩ = some (.int .i64 (D : Int)) := by simp [go_sem]
  have hBa : Below w.heap.size w (w1.alloc (.cells #[.int .i64 (Y : Int), .int .i64 (M : Int), .int .i64 (D : Int)] 24)) := hB1.alloc hB1.size _
  generalize w1.alloc (.cells #[.int .i64 (Y : Int), .int .i64 (M : Int), .int .i64 (D : Int)] 24) = W at *
  generalize w1.heap.size = B at *
  refine (H2.out _ (by first | exact hT.keep (by assumption) | exact hTb.keep (by assumption) | exact hTb | exact hT)).mono ?_
  rintro e w2 ⟨rfl, hb2⟩
  have hB2 := hBa.trans (hb2.mono hBa.size)
  have r0 := cellAlloc (o := (.cells #[.int .i64 (Y2 : Int), .int .i64 (M2 : Int), .int .i64 (D2 : Int)] 24)) ((hb2.cell hs1).trans q0)
  have r1 := cellAlloc (o := (.cells #[.int .i64 (Y2 : Int), .int .i64 (M2 : Int), .int .i64 (D2 : Int)] 24)) ((hb2.cell hs1).trans q1)
  have r2 := cellAlloc (o := (.cells #[.int .i64 (Y2 : Int), .int .i64 (M2 : Int), .int .i64 (D2 : Int)] 24)) ((hb2.cell hs1).trans q2)
  have hsB : B < (w2.alloc (.cells #[.int .i64 (Y2 : Int), .int .i64 (M2 : Int), .int .i64 (D2 : Int)] 24)).heap.size := World.block_lt_of_cell? _ _ r0
  have t0 : (w2.alloc (.cells #[.int .i64 (Y2 : Int), .int .i64 (M2 : Int), .int .i64 (D2 : Int)] 24)).cell? ⟨w2.heap.size, 0, none⟩ = some (.int .i64 (Y2 : Int)) := by simp [go_sem]
  have t1 : (w2.alloc (.cells #[.int .i64 (Y2 : Int), .int .i64 (M2 : Int), .int .i64 (D2 : Int)] 24)).cell? ⟨w2.heap.size, 1, none⟩ = some (.int .i64 (M2 : Int)) := by simp [go_sem]
  have t2 : (w2.alloc (.cells #[.int .i64 (Y2 : Int), .int .i64 (M2 : Int), .int .i64 (D2 : Int)] 24)).cell? ⟨w2.heap.size, 2, none⟩ = some (.int .i64 (D2 : Int)) := by simp [go_sem]
  have hsC : w2.heap.size < (w2.alloc (.cells #[.int .i64 (Y2 : Int), .int .i64 (M2 : Int), .int .i64 (D2 : Int)] 24)).heap.size := World.block_lt_of_cell? _ _ t0
  have hBb : Below w.heap.size w (w2.alloc (.cells #[.int .i64 (Y2 : Int), .int .i64 (M2 : Int), .int .i64 (D2 : Int)] 24)) := hB2.alloc hB2.size _
  clear q0 q1 q2 hs1 hBa hB1 hb2 hB2 H1 H2
  go_wp2_with fail
  generalize w2.alloc (.cells #[.int .i64 (Y2 : Int), .int .i64 (M2 : Int), .int .i64 (D2 : Int)] 24) = W2 at *
  generalize w2.heap.size = C at *
  refine (H4.out _).mono ?_
  rintro e w3 ⟨rfl, hb3⟩
  have hB3 := hBb.trans (hb3.mono hBb.size)
  have q0 := (hb3.cell hsB).trans r0
  have q1 := (hb3.cell hsB).trans r1
  have q2 := (hb3.cell hsB).trans r2
  have p0 := (hb3.cell hsC).trans t0
  have p1 := (hb3.cell hsC).trans t1
  have p2 := (hb3.cell hsC).trans t2
  have hsB2 := World.block_lt_of_cell? _ _ q0
  have hsC2 := World.block_lt_of_cell? _ _ p0
  clear r0 r1 r2 t0 t1 t2 hsB hsC hb3 hBb H4
  go_wp2_with fail
  refine (H3.out _).mono ?_
  rintro e w4 ⟨rfl, hb4⟩
  have hB4 := hB3.trans (hb4.mono hB3.size)
  have r0 := (hb4.cell hsB2).trans q0
  have r1 := (hb4.cell hsB2).trans q1
  have r2 := (hb4.cell hsB2).trans q2
  have t0 := (hb4.cell hsC2).trans p0
  have t1 := (hb4.cell hsC2).trans p1
  have t2 := (hb4.cell hsC2).trans p2
  clear q0 q1 q2 p0 p1 p2 hsB2 hsC2 hb4 hB3 H3
  go_wp2_with fail
  all_goals first
    | (exfalso; omega)
    | (refine (awake4_any _ (by first | exact hT.keep (by assumption) | exact hTb.keep (by assumption) | exact hTb | exact hT)).mono ?_
       rintro e w6 ⟨rfl, hb6⟩
       have hB6 := hB4.trans (hb6.mono hB4.size)
       go_wp2_with fail
       go_ret
       exact ⟨rfl, hB6⟩)
end Go.Proofs.YtnegiopbccllcaaDoor
