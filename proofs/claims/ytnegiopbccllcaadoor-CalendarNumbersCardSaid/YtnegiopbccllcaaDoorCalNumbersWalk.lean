/- The law CalendarNumbers, walked: it returns true at every input. No condition. -/
import Derived.Test.YtnegiopbccllcaaDoorCalDatesWalk
namespace Go.Proofs.YtnegiopbccllcaaDoor
open Go.RowKit

theorem num_date (Y M D : Int) : numE Y M D ≠ 0 ∨ (numE Y M D = 0 ∧ ofV (numV Y M D) = .agg #[.int .i64 Y, .int .i64 M, .int .i64 D] ∧ ofE (numV Y M D) = 0) := by
  by_cases h : dateOk Y M D
  · refine .inr ⟨(num_ok h).2, ?_⟩
    rw [(num_ok h).1]
    have h0 := h
    unfold dateOk at h
    obtain ⟨y, rfl⟩ := Int.eq_ofNat_of_zero_le (show 0 ≤ Y by omega)
    obtain ⟨m, rfl⟩ := Int.eq_ofNat_of_zero_le (show 0 ≤ M by omega)
    obtain ⟨d, rfl⟩ := Int.eq_ofNat_of_zero_le (show 0 ≤ D by omega)
    have hk : monthNo (y : Int) (m : Int) = 12 * (y - 2000) + (m - 1) := rfl
    simp only [Int.toNat_natCast] at h ⊢
    have hy : y = 2000 + monthNo (y : Int) (m : Int) / 12 := by rw [hk]; omega
    have hm : m = monthNo (y : Int) (m : Int) % 12 + 1 := by rw [hk]; omega
    have hlt : monthNo (y : Int) (m : Int) < 1200 := by rw [hk]; omega
    have hl : lenM y m = lenK (monthNo (y : Int) (m : Int)) := by
      unfold lenK
      rw [← hy, ← hm]
    generalize monthNo (y : Int) (m : Int) = k at *
    have hd := month_of_date (k := k) (m := d) (by omega) (by omega)
    have hle := date_le (k := k) (m := d) hlt (by omega)
    have hday : dayB ((msK k + d - 1 : Nat) : Int) = true := (dayB_iff _).2 (by omega)
    have e1 : ofV ((msK k + d - 1 : Nat) : Int) = dateV (msK k + d - 1) := if_pos hday
    have e2 : ofE ((msK k + d - 1 : Nat) : Int) = 0 := if_pos hday
    rw [e1, e2]
    unfold dateV
    rw [hd.1, hd.2, ← hy, ← hm]
    exact ⟨rfl, rfl⟩
  · refine .inl ?_
    rw [(num_bad h).2]
    decide

set_option maxHeartbeats 1600000 in
theorem calNumbers_raw (Y M D : Int) (w : World) (hT : CalTab w) : Calls Tryd.prog 4 #[.int .i64 Y, .int .i64 M, .int .i64 D, .bool true] w fun e w' => e = .returned (.bool true) ∧ Below w.heap.size w w' := by
  have H1 := Lib.hid (fun w1 (h : CalTab w1) => calNumber_any Y M D w1 h)
  have H2 := Lib.hid (refNumber_any Y M D)
  have H3 := Lib.hid (fun w1 (h : CalTab w1) => calOf_any (numV Y M D) w1 h)
  rcases num_date Y M D with hE | ⟨hE, hv, hf⟩
  · obtain ⟨Y2, M2, D2, hv, _⟩ := of_date (numV Y M D)
    rw [hv] at H3
    have d1 : (numE Y M D != 0) = true := by rw [bne_iff_ne]; exact hE
    clear hv hE
    generalize ofE (numV Y M D) = G at *
    generalize numE Y M D = E at *
    generalize numV Y M D = N at *
    go_enter Tryd.func4, Tryd.ntmps4
    go_wp2_with fail
    have q0 : (w.alloc (.cells #[.int .i64 Y, .int .i64 M, .int .i64 D] 24)).cell? ⟨w.heap.size, 0, none⟩ = some (.int .i64 Y) := by simp [go_sem]
    have q1 : (w.alloc (.cells #[.int .i64 Y, .int .i64 M, .int .i64 D] 24)).cell? ⟨w.heap.size, 1, none⟩ = some (.int .i64 M) := by simp [go_sem]
    have q2 : (w.alloc (.cells #[.int .i64 Y, .int .i64 M, .int .i64 D] 24)).cell? ⟨w.heap.size, 2, none⟩ = some (.int .i64 D) := by simp [go_sem]
    have hBa : Below w.heap.size w (w.alloc (.cells #[.int .i64 Y, .int .i64 M, .int .i64 D] 24)) := (Below.refl _ _).alloc (Nat.le_refl _) _
    have hs : w.heap.size < (w.alloc (.cells #[.int .i64 Y, .int .i64 M, .int .i64 D] 24)).heap.size := World.block_lt_of_cell? _ _ q0
    generalize w.alloc (.cells #[.int .i64 Y, .int .i64 M, .int .i64 D] 24) = W at *
    refine (H1.out _ (by first | exact hT.keep (by assumption) | exact hTb.keep (by assumption) | exact hTb | exact hT)).mono ?_
    rintro e w1 ⟨rfl, hb1⟩
    have hB1 := hBa.trans (hb1.mono hBa.size)
    have r0 := (hb1.cell hs).trans q0
    have r1 := (hb1.cell hs).trans q1
    have r2 := (hb1.cell hs).trans q2
    have hs1 : w.heap.size < w1.heap.size := World.block_lt_of_cell? _ _ r0
    clear q0 q1 q2 hBa hs hb1
    go_wp2_with fail
    refine (H2.out _).mono ?_
    rintro e w2 ⟨rfl, hb2⟩
    have hB2 := hB1.trans (hb2.mono hB1.size)
    have q0 := (hb2.cell hs1).trans r0
    have q1 := (hb2.cell hs1).trans r1
    have q2 := (hb2.cell hs1).trans r2
    have hs2 : w.heap.size < w2.heap.size := World.block_lt_of_cell? _ _ q0
    clear r0 r1 r2 hB1 hb2 hs1
    go_wp2_with fail
    refine (H3.out _ (by first | exact hT.keep (by assumption) | exact hTb.keep (by assumption) | exact hTb | exact hT)).mono ?_
    rintro e w3 ⟨rfl, hb3⟩
    have hB3 := hB2.trans (hb3.mono hB2.size)
    have r0 := cellAlloc (o := (.cells #[.int .i64 Y2, .int .i64 M2, .int .i64 D2] 24)) ((hb3.cell hs2).trans q0)
    have r1 := cellAlloc (o := (.cells #[.int .i64 Y2, .int .i64 M2, .int .i64 D2] 24)) ((hb3.cell hs2).trans q1)
    have r2 := cellAlloc (o := (.cells #[.int .i64 Y2, .int .i64 M2, .int .i64 D2] 24)) ((hb3.cell hs2).trans q2)
    have t0 : (w3.alloc (.cells #[.int .i64 Y2, .int .i64 M2, .int .i64 D2] 24)).cell? ⟨w3.heap.size, 0, none⟩ = some (.int .i64 Y2) := by simp [go_sem]
    have t1 : (w3.alloc (.cells #[.int .i64 Y2, .int .i64 M2, .int .i64 D2] 24)).cell? ⟨w3.heap.size, 1, none⟩ = some (.int .i64 M2) := by simp [go_sem]
    have t2 : (w3.alloc (.cells #[.int .i64 Y2, .int .i64 M2, .int .i64 D2] 24)).cell? ⟨w3.heap.size, 2, none⟩ = some (.int .i64 D2) := by simp [go_sem]
    have hB4 : Below w.heap.size w (w3.alloc (.cells #[.int .i64 Y2, .int .i64 M2, .int .i64 D2] 24)) := hB3.alloc hB3.size _
    clear q0 q1 q2 hs2 hb3 hB2 hB3 H1 H2 H3
    go_wp2_with fail
    refine (awake4_any _ (by first | exact hT.keep (by assumption) | exact hTb.keep (by assumption) | exact hTb | exact hT)).mono ?_
    rintro e w6 ⟨rfl, hb6⟩
    have hB6 := hB4.trans (hb6.mono hB4.size)
    go_wp2_with fail
    go_ret
    exact ⟨rfl, hB6⟩
  · rw [hv, hf] at H3
    rw [hE] at H1 H2
    clear hE hv hf
    generalize numV Y M D = N at *
    go_enter Tryd.func4, Tryd.ntmps4
    go_wp2_with fail
    have q0 : (w.alloc (.cells #[.int .i64 Y, .int .i64 M, .int .i64 D] 24)).cell? ⟨w.heap.size, 0, none⟩ = some (.int .i64 Y) := by simp [go_sem]
    have q1 : (w.alloc (.cells #[.int .i64 Y, .int .i64 M, .int .i64 D] 24)).cell? ⟨w.heap.size, 1, none⟩ = some (.int .i64 M) := by simp [go_sem]
    have q2 : (w.alloc (.cells #[.int .i64 Y, .int .i64 M, .int .i64 D] 24)).cell? ⟨w.heap.size, 2, none⟩ = some (.int .i64 D) := by simp [go_sem]
    have hBa : Below w.heap.size w (w.alloc (.cells #[.int .i64 Y, .int .i64 M, .int .i64 D] 24)) := (Below.refl _ _).alloc (Nat.le_refl _) _
    have hs : w.heap.size < (w.alloc (.cells #[.int .i64 Y, .int .i64 M, .int .i64 D] 24)).heap.size := World.block_lt_of_cell? _ _ q0
    generalize w.alloc (.cells #[.int .i64 Y, .int .i64 M, .int .i64 D] 24) = W at *
    refine (H1.out _ (by first | exact hT.keep (by assumption) | exact hTb.keep (by assumption) | exact hTb | exact hT)).mono ?_
    rintro e w1 ⟨rfl, hb1⟩
    have hB1 := hBa.trans (hb1.mono hBa.size)
    have r0 := (hb1.cell hs).trans q0
    have r1 := (hb1.cell hs).trans q1
    have r2 := (hb1.cell hs).trans q2
    have hs1 : w.heap.size < w1.heap.size := World.block_lt_of_cell? _ _ r0
    clear q0 q1 q2 hBa hs hb1
    go_wp2_with fail
    refine (H2.out _).mono ?_
    rintro e w2 ⟨rfl, hb2⟩
    have hB2 := hB1.trans (hb2.mono hB1.size)
    have q0 := (hb2.cell hs1).trans r0
    have q1 := (hb2.cell hs1).trans r1
    have q2 := (hb2.cell hs1).trans r2
    have hs2 : w.heap.size < w2.heap.size := World.block_lt_of_cell? _ _ q0
    clear r0 r1 r2 hB1 hb2 hs1
    go_wp2_with fail
    refine (H3.out _ (by first | exact hT.keep (by assumption) | exact hTb.keep (by assumption) | exact hTb | exact hT)).mono ?_
    rintro e w3 ⟨rfl, hb3⟩
    have hB3 := hB2.trans (hb3.mono hB2.size)
    have r0 := cellAlloc (o := (.cells #[.int .i64 Y, .int .i64 M, .int .i64 D] 24)) ((hb3.cell hs2).trans q0)
    have r1 := cellAlloc (o := (.cells #[.int .i64 Y, .int .i64 M, .int .i64 D] 24)) ((hb3.cell hs2).trans q1)
    have r2 := cellAlloc (o := (.cells #[.int .i64 Y, .int .i64 M, .int .i64 D] 24)) ((hb3.cell hs2).trans q2)
    have t0 : (w3.alloc (.cells #[.int .i64 Y, .int .i64 M, .int .i64 D] 24)).cell? ⟨w3.heap.size, 0, none⟩ = some (.int .i64 Y) := by simp [go_sem]
    have t1 : (w3.alloc (.cells #[.int .i64 Y, .int .i64 M, .int .i64 D] 24)).cell? ⟨w3.heap.size, 1, none⟩ = some (.int .i64 M) := by simp [go_sem]
    have t2 : (w3.alloc (.cells #[.int .i64 Y, .int .i64 M, .int .i64 D] 24)).cell? ⟨w3.heap.size, 2, none⟩ = some (.int .i64 D) := by simp [go_sem]
    have hB4 : Below w.heap.size w (w3.alloc (.cells #[.int .i64 Y, .int .i64 M, .int .i64 D] 24)) := hB3.alloc hB3.size _
    clear q0 q1 q2 hs2 hb3 hB2 hB3 H1 H2 H3
    go_wp2_with fail
    refine (awake4_any _ (by first | exact hT.keep (by assumption) | exact hTb.keep (by assumption) | exact hTb | exact hT)).mono ?_
    rintro e w6 ⟨rfl, hb6⟩
    have hB6 := hB4.trans (hb6.mono hB4.size)
    go_wp2_with fail
    go_ret
    exact ⟨rfl, hB6⟩

set_option maxHeartbeats 1600000 in
theorem calNumbers_made (Y0 M0 D0 : Int) (w : World) (hT : CalTab w) : Calls Tryd.prog 4 #[.int .i64 Y0, .int .i64 M0, .int .i64 D0, .bool false] w fun e w' => e = .returned (.bool true) ∧ Below w.heap.size w w' := by
  have HY := Lib.hid (madeWithin_any Y0 104 (by omega) (by omega))
  have HM := Lib.hid (madeWithin_any M0 14 (by omega) (by omega))
  have HD := Lib.hid (madeWithin_any D0 33 (by omega) (by omega))
  have hyb : 0 ≤ Y0 % 104 ∧ Y0 % 104 < 104 := by omega
  generalize Y0 % 104 = Y1 at *
  generalize M0 % 14 = M at *
  generalize D0 % 33 = D at *
  obtain ⟨Y, hYe⟩ : ∃ Y, 1998 + Y1 = Y := ⟨_, rfl⟩
  have H1 := Lib.hid (fun w1 (h : CalTab w1) => calNumber_any Y M D w1 h)
  have H2 := Lib.hid (refNumber_any Y M D)
  have H3 := Lib.hid (fun w1 (h : CalTab w1) => calOf_any (numV Y M D) w1 h)
  rcases num_date Y M D with hE | ⟨hE, hv, hf⟩
  · obtain ⟨Y2, M2, D2, hv, _⟩ := of_date (numV Y M D)
    rw [hv] at H3
    have d1 : (numE Y M D != 0) = true := by rw [bne_iff_ne]; exact hE
    clear hv hE
    generalize ofE (numV Y M D) = G at *
    generalize numE Y M D = E at *
    generalize numV Y M D = N at *
    go_enter Tryd.func4, Tryd.ntmps4
    go_wp2_with fail
    refine (HY.out _).mono ?_
    rintro e w1 ⟨rfl, rfl⟩
    go_wp2_with fail
    refine (HM.out _).mono ?_
    rintro e w1 ⟨rfl, rfl⟩
    go_wp2_with fail
    refine (HD.out _).mono ?_
    rintro e w1 ⟨rfl, rfl⟩
    go_wp2_with fail
    clear HY HM HD hYe hyb
    have q0 : (w.alloc (.cells #[.int .i64 Y, .int .i64 M, .int .i64 D] 24)).cell? ⟨w.heap.size, 0, none⟩ = some (.int .i64 Y) := by simp [go_sem]
    have q1 : (w.alloc (.cells #[.int .i64 Y, .int .i64 M, .int .i64 D] 24)).cell? ⟨w.heap.size, 1, none⟩ = some (.int .i64 M) := by simp [go_sem]
    have q2 : (w.alloc (.cells #[.int .i64 Y, .int .i64 M, .int .i64 D] 24)).cell? ⟨w.heap.size, 2, none⟩ = some (.int .i64 D) := by simp [go_sem]
    have hBa : Below w.heap.size w (w.alloc (.cells #[.int .i64 Y, .int .i64 M, .int .i64 D] 24)) := (Below.refl _ _).alloc (Nat.le_refl _) _
    have hs : w.heap.size < (w.alloc (.cells #[.int .i64 Y, .int .i64 M, .int .i64 D] 24)).heap.size := World.block_lt_of_cell? _ _ q0
    generalize w.alloc (.cells #[.int .i64 Y, .int .i64 M, .int .i64 D] 24) = W at *
    refine (H1.out _ (by first | exact hT.keep (by assumption) | exact hTb.keep (by assumption) | exact hTb | exact hT)).mono ?_
    rintro e w1 ⟨rfl, hb1⟩
    have hB1 := hBa.trans (hb1.mono hBa.size)
    have r0 := (hb1.cell hs).trans q0
    have r1 := (hb1.cell hs).trans q1
    have r2 := (hb1.cell hs).trans q2
    have hs1 : w.heap.size < w1.heap.size := World.block_lt_of_cell? _ _ r0
    clear q0 q1 q2 hBa hs hb1
    go_wp2_with fail
    refine (H2.out _).mono ?_
    rintro e w2 ⟨rfl, hb2⟩
    have hB2 := hB1.trans (hb2.mono hB1.size)
    have q0 := (hb2.cell hs1).trans r0
    have q1 := (hb2.cell hs1).trans r1
    have q2 := (hb2.cell hs1).trans r2
    have hs2 : w.heap.size < w2.heap.size := World.block_lt_of_cell? _ _ q0
    clear r0 r1 r2 hB1 hb2 hs1
    go_wp2_with fail
    refine (H3.out _ (by first | exact hT.keep (by assumption) | exact hTb.keep (by assumption) | exact hTb | exact hT)).mono ?_
    rintro e w3 ⟨rfl, hb3⟩
    have hB3 := hB2.trans (hb3.mono hB2.size)
    have r0 := cellAlloc (o := (.cells #[.int .i64 Y2, .int .i64 M2, .int .i64 D2] 24)) ((hb3.cell hs2).trans q0)
    have r1 := cellAlloc (o := (.cells #[.int .i64 Y2, .int .i64 M2, .int .i64 D2] 24)) ((hb3.cell hs2).trans q1)
    have r2 := cellAlloc (o := (.cells #[.int .i64 Y2, .int .i64 M2, .int .i64 D2] 24)) ((hb3.cell hs2).trans q2)
    have t0 : (w3.alloc (.cells #[.int .i64 Y2, .int .i64 M2, .int .i64 D2] 24)).cell? ⟨w3.heap.size, 0, none⟩ = some (.int .i64 Y2) := by simp [go_sem]
    have t1 : (w3.alloc (.cells #[.int .i64 Y2, .int .i64 M2, .int .i64 D2] 24)).cell? ⟨w3.heap.size, 1, none⟩ = some (.int .i64 M2) := by simp [go_sem]
    have t2 : (w3.alloc (.cells #[.int .i64 Y2, .int .i64 M2, .int .i64 D2] 24)).cell? ⟨w3.heap.size, 2, none⟩ = some (.int .i64 D2) := by simp [go_sem]
    have hB4 : Below w.heap.size w (w3.alloc (.cells #[.int .i64 Y2, .int .i64 M2, .int .i64 D2] 24)) := hB3.alloc hB3.size _
    clear q0 q1 q2 hs2 hb3 hB2 hB3 H1 H2 H3
    go_wp2_with fail
    refine (awake4_any _ (by first | exact hT.keep (by assumption) | exact hTb.keep (by assumption) | exact hTb | exact hT)).mono ?_
    rintro e w6 ⟨rfl, hb6⟩
    have hB6 := hB4.trans (hb6.mono hB4.size)
    go_wp2_with fail
    go_ret
    exact ⟨rfl, hB6⟩
  · rw [hv, hf] at H3
    rw [hE] at H1 H2
    clear hE hv hf
    generalize numV Y M D = N at *
    go_enter Tryd.func4, Tryd.ntmps4
    go_wp2_with fail
    refine (HY.out _).mono ?_
    rintro e w1 ⟨rfl, rfl⟩
    go_wp2_with fail
    refine (HM.out _).mono ?_
    rintro e w1 ⟨rfl, rfl⟩
    go_wp2_with fail
    refine (HD.out _).mono ?_
    rintro e w1 ⟨rfl, rfl⟩
    go_wp2_with fail
    clear HY HM HD hYe hyb
    have q0 : (w.alloc (.cells #[.int .i64 Y, .int .i64 M, .int .i64 D] 24)).cell? ⟨w.heap.size, 0, none⟩ = some (.int .i64 Y) := by simp [go_sem]
    have q1 : (w.alloc (.cells #[.int .i64 Y, .int .i64 M, .int .i64 D] 24)).cell? ⟨w.heap.size, 1, none⟩ = some (.int .i64 M) := by simp [go_sem]
    have q2 : (w.alloc (.cells #[.int .i64 Y, .int .i64 M, .int .i64 D] 24)).cell? ⟨w.heap.size, 2, none⟩ = some (.int .i64 D) := by simp [go_sem]
    have hBa : Below w.heap.size w (w.alloc (.cells #[.int .i64 Y, .int .i64 M, .int .i64 D] 24)) := (Below.refl _ _).alloc (Nat.le_refl _) _
    have hs : w.heap.size < (w.alloc (.cells #[.int .i64 Y, .int .i64 M, .int .i64 D] 24)).heap.size := World.block_lt_of_cell? _ _ q0
    generalize w.alloc (.cells #[.int .i64 Y, .int .i64 M, .int .i64 D] 24) = W at *
    refine (H1.out _ (by first | exact hT.keep (by assumption) | exact hTb.keep (by assumption) | exact hTb | exact hT)).mono ?_
    rintro e w1 ⟨rfl, hb1⟩
    have hB1 := hBa.trans (hb1.mono hBa.size)
    have r0 := (hb1.cell hs).trans q0
    have r1 := (hb1.cell hs).trans q1
    have r2 := (hb1.cell hs).trans q2
    have hs1 : w.heap.size < w1.heap.size := World.block_lt_of_cell? _ _ r0
    clear q0 q1 q2 hBa hs hb1
    go_wp2_with fail
    refine (H2.out _).mono ?_
    rintro e w2 ⟨rfl, hb2⟩
    have hB2 := hB1.trans (hb2.mono hB1.size)
    have q0 := (hb2.cell hs1).trans r0
    have q1 := (hb2.cell hs1).trans r1
    have q2 := (hb2.cell hs1).trans r2
    have hs2 : w.heap.size < w2.heap.size := World.block_lt_of_cell? _ _ q0
    clear r0 r1 r2 hB1 hb2 hs1
    go_wp2_with fail
    refine (H3.out _ (by first | exact hT.keep (by assumption) | exact hTb.keep (by assumption) | exact hTb | exact hT)).mono ?_
    rintro e w3 ⟨rfl, hb3⟩
    have hB3 := hB2.trans (hb3.mono hB2.size)
    have r0 := cellAlloc (o := (.cells #[.int .i64 Y, .int .i64 M, .int .i64 D] 24)) ((hb3.cell hs2).trans q0)
    have r1 := cellAlloc (o := (.cells #[.int .i64 Y, .int .i64 M, .int .i64 D] 24)) ((hb3.cell hs2).trans q1)
    have r2 := cellAlloc (o := (.cells #[.int .i64 Y, .int .i64 M, .int .i64 D] 24)) ((hb3.cell hs2).trans q2)
    have t0 : (w3.alloc (.cells #[.int .i64 Y, .int .i64 M, .int .i64 D] 24)).cell? ⟨w3.heap.size, 0, none⟩ = some (.int .i64 Y) := by simp [go_sem]
    have t1 : (w3.alloc (.cells #[.int .i64 Y, .int .i64 M, .int .i64 D] 24)).cell? ⟨w3.heap.size, 1, none⟩ = some (.int .i64 M) := by simp [go_sem]
    have t2 : (w3.alloc (.cells #[.int .i64 Y, .int .i64 M, .int .i64 D] 24)).cell? ⟨w3.heap.size, 2, none⟩ = some (.int .i64 D) := by simp [go_sem]
    have hB4 : Below w.heap.size w (w3.alloc (.cells #[.int .i64 Y, .int .i64 M, .int .i64 D] 24)) := hB3.alloc hB3.size _
    clear q0 q1 q2 hs2 hb3 hB2 hB3 H1 H2 H3
    go_wp2_with fail
    refine (awake4_any _ (by first | exact hT.keep (by assumption) | exact hTb.keep (by assumption) | exact hTb | exact hT)).mono ?_
    rintro e w6 ⟨rfl, hb6⟩
    have hB6 := hB4.trans (hb6.mono hB4.size)
    go_wp2_with fail
    go_ret
    exact ⟨rfl, hB6⟩

theorem calendarNumbers_walk {w : World} (hT : CalTab w) (Y M D : Int) (raw : Bool) : Calls Tryd.prog 4 #[.int .i64 Y, .int .i64 M, .int .i64 D, .bool raw] w fun e w' => e = .returned (.bool true) ∧ Below w.heap.size w w' := by
  cases raw with
  | true => exact calNumbers_raw Y M D w hT
  | false => exact calNumbers_made Y M D w hT
end Go.Proofs.YtnegiopbccllcaaDoor
