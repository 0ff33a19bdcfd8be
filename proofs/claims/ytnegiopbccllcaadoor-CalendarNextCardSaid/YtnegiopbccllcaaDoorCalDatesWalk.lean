/- The laws CalendarMonths and CalendarDates, walked: they return true at every input. No condition. -/
import Derived.Test.YtnegiopbccllcaaDoorCalAwake
namespace Go.Proofs.YtnegiopbccllcaaDoor
open Go.RowKit

set_option maxHeartbeats 800000 in
theorem calMonths_raw (x n : Int) (w : World) (hT : CalTab w) : Calls Tryd.prog 6 #[.int .i64 x, .int .i64 n, .bool true] w fun e w' => e = .returned (.bool true) ∧ Below w.heap.size w w' := by
  have H1 := Lib.hid (fun w1 (h : CalTab w1) => calAddMonths_any x n w1 h)
  have H2 := Lib.hid (refAddMonths_any x n)
  go_enter Tryd.func6, Tryd.ntmps6
  go_wp2_with fail
  refine (H1.out _ (by first | exact hT.keep (by assumption) | exact hTb.keep (by assumption) | exact hTb | exact hT)).mono ?_
  rintro e w1 ⟨rfl, hB1⟩
  go_wp2_with fail
  refine (H2.out _).mono ?_
  rintro e w2 ⟨rfl, hb2⟩
  have hB2 := hB1.trans (hb2.mono hB1.size)
  clear H1 H2 hB1 hb2
  generalize amV x n = A at *
  generalize amE x n = E at *
  go_wp2_with fail
  refine (awake4_any _ (by first | exact hT.keep (by assumption) | exact hTb.keep (by assumption) | exact hTb | exact hT)).mono ?_
  rintro e w3 ⟨rfl, hb3⟩
  have hB3 := hB2.trans (hb3.mono hB2.size)
  go_wp2_with fail
  go_ret
  exact ⟨rfl, hB3⟩

set_option maxHeartbeats 800000 in
theorem calMonths_made (x0 n0 : Int) (w : World) (hT : CalTab w) : Calls Tryd.prog 6 #[.int .i64 x0, .int .i64 n0, .bool false] w fun e w' => e = .returned (.bool true) ∧ Below w.heap.size w w' := by
  have HD := Lib.hid (madeDay_any x0)
  have HW := Lib.hid (madeWithin_any n0 2401 (by omega) (by omega))
  have hb1 : 0 ≤ x0 % 36525 ∧ x0 % 36525 < 36525 := by omega
  have hb2 : 0 ≤ n0 % 2401 ∧ n0 % 2401 < 2401 := by omega
  generalize x0 % 36525 = x at *
  generalize n0 % 2401 = n1 at *
  have H1 := Lib.hid (fun w1 (h : CalTab w1) => calAddMonths_any x (n1 - 1200) w1 h)
  have H2 := Lib.hid (refAddMonths_any x (n1 - 1200))
  go_enter Tryd.func6, Tryd.ntmps6
  go_wp2_with fail
  refine (HD.out _).mono ?_
  rintro e w1 ⟨rfl, rfl⟩
  go_wp2_with fail
  refine (HW.out _).mono ?_
  rintro e w1 ⟨rfl, rfl⟩
  go_wp2_with fail
  generalize n1 - 1200 = n at *
  clear HD HW
  refine (H1.out _ (by first | exact hT.keep (by assumption) | exact hTb.keep (by assumption) | exact hTb | exact hT)).mono ?_
  rintro e w1 ⟨rfl, hB1⟩
  go_wp2_with fail
  refine (H2.out _).mono ?_
  rintro e w2 ⟨rfl, hb2⟩
  have hB2 := hB1.trans (hb2.mono hB1.size)
  clear H1 H2 hB1 hb2
  generalize amV x n = A at *
  generalize amE x n = E at *
  go_wp2_with fail
  refine (awake4_any _ (by first | exact hT.keep (by assumption) | exact hTb.keep (by assumption) | exact hTb | exact hT)).mono ?_
  rintro e w3 ⟨rfl, hb3⟩
  have hB3 := hB2.trans (hb3.mono hB2.size)
  go_wp2_with fail
  go_ret
  exact ⟨rfl, hB3⟩

theorem calendarMonths_walk {w : World} (hT : CalTab w) (x n : Int) (raw : Bool) : Calls Tryd.prog 6 #[.int .i64 x, .int .i64 n, .bool raw] w fun e w' => e = .returned (.bool true) ∧ Below w.heap.size w w' := by
  cases raw with
  | true => exact calMonths_raw x n w hT
  | false => exact calMonths_made x n w hT

theorem cellAlloc {w : World} {a : Addr} {v : Value} {o : Obj} (h : w.cell? a = some v) : (w.alloc o).cell? a = some v :=
  (((Below.refl w.heap.size w).alloc (Nat.le_refl _) o).cell (World.block_lt_of_cell? w _ h)).trans h
theorem num_of_day (d : Nat) (hd : d ≤ 36524) : numV ((2000 + monthOf d / 12 : Nat) : Int) ((monthOf d % 12 + 1 : Nat) : Int) (domOf d) = d ∧ numE ((2000 + monthOf d / 12 : Nat) : Int) ((monthOf d % 12 + 1 : Nat) : Int) (domOf d) = 0 := by
  have hb := dom_bounds d
  have ok := date_ok (monthOf d) (domOf d) (month_lt hd) hb.1 hb.2.1
  rw [(num_ok ok).1, (num_ok ok).2, month_no]
  refine ⟨?_, rfl⟩
  simp only [Int.toNat_natCast]
  omega

/-- What a law needs to know of Of's answer: a date, an error, and the day of that date. -/
theorem of_date (x : Int) : ∃ Y M D : Int, ofV x = .agg #[.int .i64 Y, .int .i64 M, .int .i64 D] ∧ (ofE x ≠ 0 ∨ (numV Y M D = x ∧ numE Y M D = 0 ∧ ofE x = 0)) := by
  cases h : dayB x with
  | true =>
    obtain ⟨h1, h2⟩ := (dayB_iff x).1 h
    obtain ⟨d, rfl⟩ := Int.eq_ofNat_of_zero_le h1
    have hn := num_of_day d (by omega)
    refine ⟨_, _, _, ?_, .inr ⟨hn.1, hn.2, ?_⟩⟩
    · unfold ofV
      rw [if_pos h]
      rfl
    · unfold ofE
      rw [if_pos h]
  | false =>
    refine ⟨0, 0, 0, ?_, .inl ?_⟩
    · unfold ofV
      rw [if_neg (by rw [h]; simp)]
    · unfold ofE
      rw [if_neg (by rw [h]; simp)]
      decide

set_option maxHeartbeats 1600000 in
theorem calDates_raw (x : Int) (w : World) (hT : CalTab w) : Calls Tryd.prog 3 #[.int .i64 x, .bool true] w fun e w' => e = .returned (.bool true) ∧ Below w.heap.size w w' := by
  obtain ⟨Y, M, D, hv, hst⟩ := of_date x
  have H1 := Lib.hid (fun w1 (h : CalTab w1) => calOf_any x w1 h)
  have H2 := Lib.hid (refOf_any x)
  have H3 := Lib.hid (calWeekday_any x)
  have H4 := Lib.hid (refWeekday_any x)
  have H5 := Lib.hid (fun w1 (h : CalTab w1) => calNumber_any Y M D w1 h)
  rw [hv] at H1 H2
  clear hv
  generalize ofE x = E at *
  generalize numV Y M D = m at *
  generalize numE Y M D = F at *
  generalize (if dayB x then (x + 5) % 7 else -1) = wd at *
  rcases hst with hE | ⟨rfl, rfl, rfl⟩
  · have d1 : (E != 0) = true := by rw [bne_iff_ne]; exact hE
    clear hE
    go_enter Tryd.func3, Tryd.ntmps3
    go_wp2_with fail
    refine (H1.out _ (by first | exact hT.keep (by assumption) | exact hTb.keep (by assumption) | exact hTb | exact hT)).mono ?_
    rintro e w1 ⟨rfl, hB1⟩
    go_wp2_with fail
    have hs1 : w1.heap.size < (w1.alloc (.cells #[.int .i64 Y, .int .i64 M, .int .i64 D] 24)).heap.size := by simp [go_sem]
    have q0 : (w1.alloc (.cells #[.int .i64 Y, .int .i64 M, .int .i64 D] 24)).cell? ⟨w1.heap.size, 0, none⟩ = some (.int .i64 Y) := by simp [go_sem]
    have q1 : (w1.alloc (.cells #[.int .i64 Y, .int .i64 M, .int .i64 D] 24)).cell? ⟨w1.heap.size, 1, none⟩ = some (.int .i64 M) := by simp [go_sem]
    have q2 : (w1.alloc (.cells #[.int .i64 Y, .int .i64 M, .int .i64 D] 24)).cell? ⟨w1.heap.size, 2, none⟩ = some (.int .i64 D) := by simp [go_sem]
    have hBa : Below w.heap.size w (w1.alloc (.cells #[.int .i64 Y, .int .i64 M, .int .i64 D] 24)) := hB1.alloc hB1.size _
    generalize w1.alloc (.cells #[.int .i64 Y, .int .i64 M, .int .i64 D] 24) = W at *
    generalize w1.heap.size = B at *
    refine (H2.out _).mono ?_
    rintro e w2 ⟨rfl, hb2⟩
    have hB2 := hBa.trans (hb2.mono hBa.size)
    have r0 := cellAlloc (o := (.cells #[.int .i64 Y, .int .i64 M, .int .i64 D] 24)) ((hb2.cell hs1).trans q0)
    have r1 := cellAlloc (o := (.cells #[.int .i64 Y, .int .i64 M, .int .i64 D] 24)) ((hb2.cell hs1).trans q1)
    have r2 := cellAlloc (o := (.cells #[.int .i64 Y, .int .i64 M, .int .i64 D] 24)) ((hb2.cell hs1).trans q2)
    have hsB : B < (w2.alloc (.cells #[.int .i64 Y, .int .i64 M, .int .i64 D] 24)).heap.size := World.block_lt_of_cell? _ _ r0
    have t0 : (w2.alloc (.cells #[.int .i64 Y, .int .i64 M, .int .i64 D] 24)).cell? ⟨w2.heap.size, 0, none⟩ = some (.int .i64 Y) := by simp [go_sem]
    have t1 : (w2.alloc (.cells #[.int .i64 Y, .int .i64 M, .int .i64 D] 24)).cell? ⟨w2.heap.size, 1, none⟩ = some (.int .i64 M) := by simp [go_sem]
    have t2 : (w2.alloc (.cells #[.int .i64 Y, .int .i64 M, .int .i64 D] 24)).cell? ⟨w2.heap.size, 2, none⟩ = some (.int .i64 D) := by simp [go_sem]
    have hBb : Below w.heap.size w (w2.alloc (.cells #[.int .i64 Y, .int .i64 M, .int .i64 D] 24)) := hB2.alloc hB2.size _
    clear q0 q1 q2 hs1 hBa hB1 hb2 hB2 H1 H2
    go_wp2_with fail
    clear t0 t1 t2
    generalize w2.alloc (.cells #[.int .i64 Y, .int .i64 M, .int .i64 D] 24) = W2 at *
    refine (H3.out _).mono ?_
    rintro e w3 ⟨rfl, hb3⟩
    have hB3 := hBb.trans (hb3.mono hBb.size)
    have s0 := (hb3.cell hsB).trans r0
    have s1 := (hb3.cell hsB).trans r1
    have s2 := (hb3.cell hsB).trans r2
    clear r0 r1 r2 hsB hb3 hBb H3
    go_wp2_with fail
    refine (H4.out _).mono ?_
    rintro e w4 ⟨rfl, rfl⟩
    go_wp2_with fail
    refine (H5.out _ (by first | exact hT.keep (by assumption) | exact hTb.keep (by assumption) | exact hTb | exact hT)).mono ?_
    rintro e w5 ⟨rfl, hb5⟩
    have hB5 := hB3.trans (hb5.mono hB3.size)
    clear s0 s1 s2 hb5 hB3 H4 H5
    go_wp2_with fail
    refine (awake4_any _ (by first | exact hT.keep (by assumption) | exact hTb.keep (by assumption) | exact hTb | exact hT)).mono ?_
    rintro e w6 ⟨rfl, hb6⟩
    have hB6 := hB5.trans (hb6.mono hB5.size)
    go_wp2_with fail
    go_ret
    exact ⟨rfl, hB6⟩
  · go_enter Tryd.func3, Tryd.ntmps3
    go_wp2_with fail
    refine (H1.out _ (by first | exact hT.keep (by assumption) | exact hTb.keep (by assumption) | exact hTb | exact hT)).mono ?_
    rintro e w1 ⟨rfl, hB1⟩
    go_wp2_with fail
    have hs1 : w1.heap.size < (w1.alloc (.cells #[.int .i64 Y, .int .i64 M, .int .i64 D] 24)).heap.size := by simp [go_sem]
    have q0 : (w1.alloc (.cells #[.int .i64 Y, .int .i64 M, .int .i64 D] 24)).cell? ⟨w1.heap.size, 0, none⟩ = some (.int .i64 Y) := by simp [go_sem]
    have q1 : (w1.alloc (.cells #[.int .i64 Y, .int .i64 M, .int .i64 D] 24)).cell? ⟨w1.heap.size, 1, none⟩ = some (.int .i64 M) := by simp [go_sem]
    have q2 : (w1.alloc (.cells #[.int .i64 Y, .int .i64 M, .int .i64 D] 24)).cell? ⟨w1.heap.size, 2, none⟩ = some (.int .i64 D) := by simp [go_sem]
    have hBa : Below w.heap.size w (w1.alloc (.cells #[.int .i64 Y, .int .i64 M, .int .i64 D] 24)) := hB1.alloc hB1.size _
    generalize w1.alloc (.cells #[.int .i64 Y, .int .i64 M, .int .i64 D] 24) = W at *
    generalize w1.heap.size = B at *
    refine (H2.out _).mono ?_
    rintro e w2 ⟨rfl, hb2⟩
    have hB2 := hBa.trans (hb2.mono hBa.size)
    have r0 := cellAlloc (o := (.cells #[.int .i64 Y, .int .i64 M, .int .i64 D] 24)) ((hb2.cell hs1).trans q0)
    have r1 := cellAlloc (o := (.cells #[.int .i64 Y, .int .i64 M, .int .i64 D] 24)) ((hb2.cell hs1).trans q1)
    have r2 := cellAlloc (o := (.cells #[.int .i64 Y, .int .i64 M, .int .i64 D] 24)) ((hb2.cell hs1).trans q2)
    have hsB : B < (w2.alloc (.cells #[.int .i64 Y, .int .i64 M, .int .i64 D] 24)).heap.size := World.block_lt_of_cell? _ _ r0
    have t0 : (w2.alloc (.cells #[.int .i64 Y, .int .i64 M, .int .i64 D] 24)).cell? ⟨w2.heap.size, 0, none⟩ = some (.int .i64 Y) := by simp [go_sem]
    have t1 : (w2.alloc (.cells #[.int .i64 Y, .int .i64 M, .int .i64 D] 24)).cell? ⟨w2.heap.size, 1, none⟩ = some (.int .i64 M) := by simp [go_sem]
    have t2 : (w2.alloc (.cells #[.int .i64 Y, .int .i64 M, .int .i64 D] 24)).cell? ⟨w2.heap.size, 2, none⟩ = some (.int .i64 D) := by simp [go_sem]
    have hBb : Below w.heap.size w (w2.alloc (.cells #[.int .i64 Y, .int .i64 M, .int .i64 D] 24)) := hB2.alloc hB2.size _
    clear q0 q1 q2 hs1 hBa hB1 hb2 hB2 H1 H2
    go_wp2_with fail
    clear t0 t1 t2
    generalize w2.alloc (.cells #[.int .i64 Y, .int .i64 M, .int .i64 D] 24) = W2 at *
    refine (H3.out _).mono ?_
    rintro e w3 ⟨rfl, hb3⟩
    have hB3 := hBb.trans (hb3.mono hBb.size)
    have s0 := (hb3.cell hsB).trans r0
    have s1 := (hb3.cell hsB).trans r1
    have s2 := (hb3.cell hsB).trans r2
    clear r0 r1 r2 hsB hb3 hBb H3
    go_wp2_with fail
    refine (H4.out _).mono ?_
    rintro e w4 ⟨rfl, rfl⟩
    go_wp2_with fail
    refine (H5.out _ (by first | exact hT.keep (by assumption) | exact hTb.keep (by assumption) | exact hTb | exact hT)).mono ?_
    rintro e w5 ⟨rfl, hb5⟩
    have hB5 := hB3.trans (hb5.mono hB3.size)
    clear s0 s1 s2 hb5 hB3 H4 H5
    go_wp2_with fail
    refine (awake4_any _ (by first | exact hT.keep (by assumption) | exact hTb.keep (by assumption) | exact hTb | exact hT)).mono ?_
    rintro e w6 ⟨rfl, hb6⟩
    have hB6 := hB5.trans (hb6.mono hB5.size)
    go_wp2_with fail
    go_ret
    exact ⟨rfl, hB6⟩

set_option maxHeartbeats 1600000 in
theorem calDates_made (x0 : Int) (w : World) (hT : CalTab w) : Calls Tryd.prog 3 #[.int .i64 x0, .bool false] w fun e w' => e = .returned (.bool true) ∧ Below w.heap.size w w' := by
  have HD := Lib.hid (madeDay_any x0)
  generalize x0 % 36525 = x at *
  obtain ⟨Y, M, D, hv, hst⟩ := of_date x
  have H1 := Lib.hid (fun w1 (h : CalTab w1) => calOf_any x w1 h)
  have H2 := Lib.hid (refOf_any x)
  have H3 := Lib.hid (calWeekday_any x)
  have H4 := Lib.hid (refWeekday_any x)
  have H5 := Lib.hid (fun w1 (h : CalTab w1) => calNumber_any Y M D w1 h)
  rw [hv] at H1 H2
  clear hv
  generalize ofE x = E at *
  generalize numV Y M D = m at *
  generalize numE Y M D = F at *
  generalize (if dayB x then (x + 5) % 7 else -1) = wd at *
  rcases hst with hE | ⟨rfl, rfl, rfl⟩
  · have d1 : (E != 0) = true := by rw [bne_iff_ne]; exact hE
    clear hE
    go_enter Tryd.func3, Tryd.ntmps3
    go_wp2_with fail
    refine (HD.out _).mono ?_
    rintro e w1 ⟨rfl, rfl⟩
    go_wp2_with fail
    clear HD
    refine (H1.out _ (by first | exact hT.keep (by assumption) | exact hTb.keep (by assumption) | exact hTb | exact hT)).mono ?_
    rintro e w1 ⟨rfl, hB1⟩
    go_wp2_with fail
    have hs1 : w1.heap.size < (w1.alloc (.cells #[.int .i64 Y, .int .i64 M, .int .i64 D] 24)).heap.size := by simp [go_sem]
    have q0 : (w1.alloc (.cells #[.int .i64 Y, .int .i64 M, .int .i64 D] 24)).cell? ⟨w1.heap.size, 0, none⟩ = some (.int .i64 Y) := by simp [go_sem]
    have q1 : (w1.alloc (.cells #[.int .i64 Y, .int .i64 M, .int .i64 D] 24)).cell? ⟨w1.heap.size, 1, none⟩ = some (.int .i64 M) := by simp [go_sem]
    have q2 : (w1.alloc (.cells #[.int .i64 Y, .int .i64 M, .int .i64 D] 24)).cell? ⟨w1.heap.size, 2, none⟩ = some (.int .i64 D) := by simp [go_sem]
    have hBa : Below w.heap.size w (w1.alloc (.cells #[.int .i64 Y, .int .i64 M, .int .i64 D] 24)) := hB1.alloc hB1.size _
    generalize w1.alloc (.cells #[.int .i64 Y, .int .i64 M, .int .i64 D] 24) = W at *
    generalize w1.heap.size = B at *
    refine (H2.out _).mono ?_
    rintro e w2 ⟨rfl, hb2⟩
    have hB2 := hBa.trans (hb2.mono hBa.size)
    have r0 := cellAlloc (o := (.cells #[.int .i64 Y, .int .i64 M, .int .i64 D] 24)) ((hb2.cell hs1).trans q0)
    have r1 := cellAlloc (o := (.cells #[.int .i64 Y, .int .i64 M, .int .i64 D] 24)) ((hb2.cell hs1).trans q1)
    have r2 := cellAlloc (o := (.cells #[.int .i64 Y, .int .i64 M, .int .i64 D] 24)) ((hb2.cell hs1).trans q2)
    have hsB : B < (w2.alloc (.cells #[.int .i64 Y, .int .i64 M, .int .i64 D] 24)).heap.size := World.block_lt_of_cell? _ _ r0
    have t0 : (w2.alloc (.cells #[.int .i64 Y, .int .i64 M, .int .i64 D] 24)).cell? ⟨w2.heap.size, 0, none⟩ = some (.int .i64 Y) := by simp [go_sem]
    have t1 : (w2.alloc (.cells #[.int .i64 Y, .int .i64 M, .int .i64 D] 24)).cell? ⟨w2.heap.size, 1, none⟩ = some (.int .i64 M) := by simp [go_sem]
    have t2 : (w2.alloc (.cells #[.int .i64 Y, .int .i64 M, .int .i64 D] 24)).cell? ⟨w2.heap.size, 2, none⟩ = some (.int .i64 D) := by simp [go_sem]
    have hBb : Below w.heap.size w (w2.alloc (.cells #[.int .i64 Y, .int .i64 M, .int .i64 D] 24)) := hB2.alloc hB2.size _
    clear q0 q1 q2 hs1 hBa hB1 hb2 hB2 H1 H2
    go_wp2_with fail
    clear t0 t1 t2
    generalize w2.alloc (.cells #[.int .i64 Y, .int .i64 M, .int .i64 D] 24) = W2 at *
    refine (H3.out _).mono ?_
    rintro e w3 ⟨rfl, hb3⟩
    have hB3 := hBb.trans (hb3.mono hBb.size)
    have s0 := (hb3.cell hsB).trans r0
    have s1 := (hb3.cell hsB).trans r1
    have s2 := (hb3.cell hsB).trans r2
    clear r0 r1 r2 hsB hb3 hBb H3
    go_wp2_with fail
    refine (H4.out _).mono ?_
    rintro e w4 ⟨rfl, rfl⟩
    go_wp2_with fail
    refine (H5.out _ (by first | exact hT.keep (by assumption) | exact hTb.keep (by assumption) | exact hTb | exact hT)).mono ?_
    rintro e w5 ⟨rfl, hb5⟩
    have hB5 := hB3.trans (hb5.mono hB3.size)
    clear s0 s1 s2 hb5 hB3 H4 H5
    go_wp2_with fail
    refine (awake4_any _ (by first | exact hT.keep (by assumption) | exact hTb.keep (by assumption) | exact hTb | exact hT)).mono ?_
    rintro e w6 ⟨rfl, hb6⟩
    have hB6 := hB5.trans (hb6.mono hB5.size)
    go_wp2_with fail
    go_ret
    exact ⟨rfl, hB6⟩
  · go_enter Tryd.func3, Tryd.ntmps3
    go_wp2_with fail
    refine (HD.out _).mono ?_
    rintro e w1 ⟨rfl, rfl⟩
    go_wp2_with fail
    clear HD
    refine (H1.out _ (by first | exact hT.keep (by assumption) | exact hTb.keep (by assumption) | exact hTb | exact hT)).mono ?_
    rintro e w1 ⟨rfl, hB1⟩
    go_wp2_with fail
    have hs1 : w1.heap.size < (w1.alloc (.cells #[.int .i64 Y, .int .i64 M, .int .i64 D] 24)).heap.size := by simp [go_sem]
    have q0 : (w1.alloc (.cells #[.int .i64 Y, .int .i64 M, .int .i64 D] 24)).cell? ⟨w1.heap.size, 0, none⟩ = some (.int .i64 Y) := by simp [go_sem]
    have q1 : (w1.alloc (.cells #[.int .i64 Y, .int .i64 M, .int .i64 D] 24)).cell? ⟨w1.heap.size, 1, none⟩ = some (.int .i64 M) := by simp [go_sem]
    have q2 : (w1.alloc (.cells #[.int .i64 Y, .int .i64 M, .int .i64 D] 24)).cell? ⟨w1.heap.size, 2, none⟩ = some (.int .i64 D) := by simp [go_sem]
    have hBa : Below w.heap.size w (w1.alloc (.cells #[.int .i64 Y, .int .i64 M, .int .i64 D] 24)) := hB1.alloc hB1.size _
    generalize w1.alloc (.cells #[.int .i64 Y, .int .i64 M, .int .i64 D] 24) = W at *
    generalize w1.heap.size = B at *
    refine (H2.out _).mono ?_
    rintro e w2 ⟨rfl, hb2⟩
    have hB2 := hBa.trans (hb2.mono hBa.size)
    have r0 := cellAlloc (o := (.cells #[.int .i64 Y, .int .i64 M, .int .i64 D] 24)) ((hb2.cell hs1).trans q0)
    have r1 := cellAlloc (o := (.cells #[.int .i64 Y, .int .i64 M, .int .i64 D] 24)) ((hb2.cell hs1).trans q1)
    have r2 := cellAlloc (o := (.cells #[.int .i64 Y, .int .i64 M, .int .i64 D] 24)) ((hb2.cell hs1).trans q2)
    have hsB : B < (w2.alloc (.cells #[.int .i64 Y, .int .i64 M, .int .i64 D] 24)).heap.size := World.block_lt_of_cell? _ _ r0
    have t0 : (w2.alloc (.cells #[.int .i64 Y, .int .i64 M, .int .i64 D] 24)).cell? ⟨w2.heap.size, 0, none⟩ = some (.int .i64 Y) := by simp [go_sem]
    have t1 : (w2.alloc (.cells #[.int .i64 Y, .int .i64 M, .int .i64 D] 24)).cell? ⟨w2.heap.size, 1, none⟩ = some (.int .i64 M) := by simp [go_sem]
    have t2 : (w2.alloc (.cells #[.int .i64 Y, .int .i64 M, .int .i64 D] 24)).cell? ⟨w2.heap.size, 2, none⟩ = some (.int .i64 D) := by simp [go_sem]
    have hBb : Below w.heap.size w (w2.alloc (.cells #[.int .i64 Y, .int .i64 M, .int .i64 D] 24)) := hB2.alloc hB2.size _
    clear q0 q1 q2 hs1 hBa hB1 hb2 hB2 H1 H2
    go_wp2_with fail
    clear t0 t1 t2
    generalize w2.alloc (.cells #[.int .i64 Y, .int .i64 M, .int .i64 D] 24) = W2 at *
    refine (H3.out _).mono ?_
    rintro e w3 ⟨rfl, hb3⟩
    have hB3 := hBb.trans (hb3.mono hBb.size)
    have s0 := (hb3.cell hsB).trans r0
    have s1 := (hb3.cell hsB).trans r1
    have s2 := (hb3.cell hsB).trans r2
    clear r0 r1 r2 hsB hb3 hBb H3
    go_wp2_with fail
    refine (H4.out _).mono ?_
    rintro e w4 ⟨rfl, rfl⟩
    go_wp2_with fail
    refine (H5.out _ (by first | exact hT.keep (by assumption) | exact hTb.keep (by assumption) | exact hTb | exact hT)).mono ?_
    rintro e w5 ⟨rfl, hb5⟩
    have hB5 := hB3.trans (hb5.mono hB3.size)
    clear s0 s1 s2 hb5 hB3 H4 H5
    go_wp2_with fail
    refine (awake4_any _ (by first | exact hT.keep (by assumption) | exact hTb.keep (by assumption) | exact hTb | exact hT)).mono ?_
    rintro e w6 ⟨rfl, hb6⟩
    have hB6 := hB5.trans (hb6.mono hB5.size)
    go_wp2_with fail
    go_ret
    exact ⟨rfl, hB6⟩

theorem calendarDates_walk {w : World} (hT : CalTab w) (x : Int) (raw : Bool) : Calls Tryd.prog 3 #[.int .i64 x, .bool raw] w fun e w' => e = .returned (.bool true) ∧ Below w.heap.size w w' := by
  cases raw with
  | true => exact calDates_raw x w hT
  | false => exact calDates_made x w hT
end Go.Proofs.YtnegiopbccllcaaDoor
