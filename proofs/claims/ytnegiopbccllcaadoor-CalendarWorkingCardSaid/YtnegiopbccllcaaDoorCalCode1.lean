/- What Of, Weekday and Number of the package calendar return, for every input. Condition: the package's table holds what the program lays in it. -/
import Derived.Test.YtnegiopbccllcaaDoorCalFirst
import Derived.Test.YtnegiopbccllcaaDoorCalRef2
import Derived.Deep.RegionWith
namespace Go.Proofs.YtnegiopbccllcaaDoor
open Go.RowKit

set_option maxHeartbeats 400000 in
theorem calWeekday_any (n : Int) (w : World) : Calls Tryd.prog 14 #[.int .i64 n] w fun e w' => e = .returned (.int .i64 (if dayB n then (n + 5) % 7 else -1)) ∧ Below w.heap.size w w' := by
  have HD := Lib.hid (isDay_any n)
  cases h : dayB n with
  | false =>
    rw [h] at HD
    clear h
    go_enter Tryd.func14, Tryd.ntmps14
    go_wp2_with fail
    refine (HD.out _).mono ?_
    rintro e w1 ⟨rfl, hB⟩
    go_wp2_with fail
    go_ret
    exact ⟨rfl, hB⟩
  | true =>
    obtain ⟨h1, h2⟩ := (dayB_iff n).1 h
    rw [h] at HD
    clear h
    go_enter Tryd.func14, Tryd.ntmps14
    go_wp2_with fail
    refine (HD.out _).mono ?_
    rintro e w1 ⟨rfl, hB⟩
    go_wp2_with fail
    go_ret
    exact ⟨by rw [Int.add_comm n 5]; rfl, hB⟩

/-- A struct of three cells, written whole. -/
theorem setThree {w : World} {B : Nat} {x0 x1 x2 : Value} (r0 : w.cell? ⟨B, 0, none⟩ = some x0) (r1 : w.cell? ⟨B, 1, none⟩ = some x1) (r2 : w.cell? ⟨B, 2, none⟩ = some x2) (a b c : Value) :
    (((w.setCell ⟨B, 0, none⟩ a).setCell ⟨B, 1, none⟩ b).setCell ⟨B, 2, none⟩ c).cell? ⟨B, 0, none⟩ = some a ∧
    (((w.setCell ⟨B, 0, none⟩ a).setCell ⟨B, 1, none⟩ b).setCell ⟨B, 2, none⟩ c).cell? ⟨B, 1, none⟩ = some b ∧
    (((w.setCell ⟨B, 0, none⟩ a).setCell ⟨B, 1, none⟩ b).setCell ⟨B, 2, none⟩ c).cell? ⟨B, 2, none⟩ = some c := by
  refine ⟨?_, ?_, ?_⟩
  · rw [World.cell?_setCell_other _ _ _ _ (by simp), World.cell?_setCell_other _ _ _ _ (by simp), World.cell?_setCell_same _ _ _ r0]
  · rw [World.cell?_setCell_other _ _ _ _ (by simp)]
    exact World.cell?_setCell_same _ _ _ ((World.cell?_setCell_other _ _ _ _ (by simp)).trans r1)
  · exact World.cell?_setCell_same _ _ _ ((World.cell?_setCell_other _ _ _ _ (by simp)).trans ((World.cell?_setCell_other _ _ _ _ (by simp)).trans r2))

set_option maxHeartbeats 800000 in
theorem calOf_any (n : Int) (w : World) (hT : CalTab w) : Calls Tryd.prog 12 #[.int .i64 n] w fun e w' => e = .returned (.tuple #[ofV n, .int .i64 (ofE n)]) ∧ Below w.heap.size w w' := by
  have HD := Lib.hid (isDay_any n)
  cases h : dayB n with
  | false =>
    have e1 : ofV n = .agg #[.int .i64 0, .int .i64 0, .int .i64 0] := by unfold ofV; rw [h]; rfl
    have e2 : ofE n = 2 := by unfold ofE; rw [h]; rfl
    rw [e1, e2]
    rw [h] at HD
    clear h e1 e2
    go_enter Tryd.func12, Tryd.ntmps12
    go_wp2_with fail
    have hs : w.heap.size < (w.alloc (.cells #[.int .i64 0, .int .i64 0, .int .i64 0] 24)).heap.size := by simp [go_sem]
    have hB0 : Below w.heap.size w (w.alloc (.cells #[.int .i64 0, .int .i64 0, .int .i64 0] 24)) := (Below.refl _ _).alloc (Nat.le_refl _) _
    have q0 : (w.alloc (.cells #[.int .i64 0, .int .i64 0, .int .i64 0] 24)).cell? ⟨w.heap.size, 0, none⟩ = some (.int .i64 0) ∧ (w.alloc (.cells #[.int .i64 0, .int .i64 0, .int .i64 0] 24)).frozen? ⟨w.heap.size, 0, none⟩ = false := by simp [go_sem]
    have q1 : (w.alloc (.cells #[.int .i64 0, .int .i64 0, .int .i64 0] 24)).cell? ⟨w.heap.size, 1, none⟩ = some (.int .i64 0) ∧ (w.alloc (.cells #[.int .i64 0, .int .i64 0, .int .i64 0] 24)).frozen? ⟨w.heap.size, 1, none⟩ = false := by simp [go_sem]
    have q2 : (w.alloc (.cells #[.int .i64 0, .int .i64 0, .int .i64 0] 24)).cell? ⟨w.heap.size, 2, none⟩ = some (.int .i64 0) ∧ (w.alloc (.cells #[.int .i64 0, .int .i64 0, .int .i64 0] 24)).frozen? ⟨w.heap.size, 2, none⟩ = false := by simp [go_sem]
    generalize w.alloc (.cells #[.int .i64 0, .int .i64 0, .int .i64 0] 24) = W at *
    refine (HD.out _).mono ?_
    rintro e w1 ⟨rfl, hB⟩
    have r0 := (hB.cell hs).trans q0.1
    have r1 := (hB.cell hs).trans q1.1
    have r2 := (hB.cell hs).trans q2.1
    have f0 := (hB.frozen (p := ⟨w.heap.size, 0, none⟩) hs).trans q0.2
    have f1 := (hB.frozen (p := ⟨w.heap.size, 1, none⟩) hs).trans q1.2
    have f2 := (hB.frozen (p := ⟨w.heap.size, 2, none⟩) hs).trans q2.2
    have hB1 := hB0.trans (hB.mono hB0.size)
    clear q0 q1 q2 hs hB hB0 HD
    go_wp2_with fail
    obtain ⟨g0, g1, g2⟩ := setThree r0 r1 r2 (.int .i64 0) (.int .i64 0) (.int .i64 0)
    simp [bodyPost, results, Tryd.results12, go_sem, g0, g1, g2]
    exact ((hB1.setCell (Nat.le_refl _) _).setCell (Nat.le_refl _) _).setCell (Nat.le_refl _) _
  | true =>
    obtain ⟨h1, h2⟩ := (dayB_iff n).1 h
    obtain ⟨d, rfl⟩ := Int.eq_ofNat_of_zero_le h1
    have e1 : ofV (d : Int) = dateV d := by unfold ofV; rw [h]; rfl
    have e2 : ofE (d : Int) = 0 := by unfold ofE; rw [h]; rfl
    rw [e1, e2]
    rw [h] at HD
    have hdm := Lib.hid (show dateV d = .agg #[.int .i64 ((2000 + monthOf d / 12 : Nat) : Int), .int .i64 ((monthOf d % 12 + 1 : Nat) : Int), .int .i64 (domOf d)] from rfl)
    have hdd := dom_bounds d
    have hml := month_lt (d := d) (by omega)
    have hmb : msK (monthOf d) ≤ 36525 := by rw [← ms_end]; exact ms_mono (by omega)
    have HM := Lib.hid (fun w1 (h : CalTab w1) => monthOf_any d (by omega) w1 h)
    have HF := Lib.hid (fun w1 (h : CalTab w1) => firstDay_any (monthOf d) (by omega) w1 h)
    clear h e1 e2
    have hdom : ((domOf d : Nat) : Int) = (d : Int) - (msK (monthOf d) : Nat) + 1 := by omega
    rw [hdom] at hdm
    clear hdom
    generalize dateV d = V at *
    have hmd : msK (monthOf d) ≤ d := by omega
    clear hdd
    generalize msK (monthOf d) = F at *
    generalize monthOf d = M at *
    go_enter Tryd.func12, Tryd.ntmps12
    go_wp2_with fail
    have hs : w.heap.size < (w.alloc (.cells #[.int .i64 0, .int .i64 0, .int .i64 0] 24)).heap.size := by simp [go_sem]
    have hB0 : Below w.heap.size w (w.alloc (.cells #[.int .i64 0, .int .i64 0, .int .i64 0] 24)) := (Below.refl _ _).alloc (Nat.le_refl _) _
    have q0 : (w.alloc (.cells #[.int .i64 0, .int .i64 0, .int .i64 0] 24)).cell? ⟨w.heap.size, 0, none⟩ = some (.int .i64 0) ∧ (w.alloc (.cells #[.int .i64 0, .int .i64 0, .int .i64 0] 24)).frozen? ⟨w.heap.size, 0, none⟩ = false := by simp [go_sem]
    have q1 : (w.alloc (.cells #[.int .i64 0, .int .i64 0, .int .i64 0] 24)).cell? ⟨w.heap.size, 1, none⟩ = some (.int .i64 0) ∧ (w.alloc (.cells #[.int .i64 0, .int .i64 0, .int .i64 0] 24)).frozen? ⟨w.heap.size, 1, none⟩ = false := by simp [go_sem]
    have q2 : (w.alloc (.cells #[.int .i64 0, .int .i64 0, .int .i64 0] 24)).cell? ⟨w.heap.size, 2, none⟩ = some (.int .i64 0) ∧ (w.alloc (.cells #[.int .i64 0, .int .i64 0, .int .i64 0] 24)).frozen? ⟨w.heap.size, 2, none⟩ = false := by simp [go_sem]
    generalize w.alloc (.cells #[.int .i64 0, .int .i64 0, .int .i64 0] 24) = W at *
    refine (HD.out _).mono ?_
    rintro e w1 ⟨rfl, hB⟩
    have hB1 := hB0.trans (hB.mono hB0.size)
    go_wp2_with fail
    refine (HM.out _ (hT.keep hB1)).mono ?_
    rintro e w2 ⟨rfl, hb2⟩
    have hB2 := hB1.trans (hb2.mono hB1.size)
    have hs1 : w.heap.size < w1.heap.size := Nat.lt_of_lt_of_le hs hB.size
    have r0 := (hb2.cell hs1).trans ((hB.cell hs).trans q0.1)
    have r1 := (hb2.cell hs1).trans ((hB.cell hs).trans q1.1)
    have r2 := (hb2.cell hs1).trans ((hB.cell hs).trans q2.1)
    have f0 := (hb2.frozen (p := ⟨w.heap.size, 0, none⟩) hs1).trans ((hB.frozen (p := ⟨w.heap.size, 0, none⟩) hs).trans q0.2)
    have f1 := (hb2.frozen (p := ⟨w.heap.size, 1, none⟩) hs1).trans ((hB.frozen (p := ⟨w.heap.size, 1, none⟩) hs).trans q1.2)
    have f2 := (hb2.frozen (p := ⟨w.heap.size, 2, none⟩) hs1).trans ((hB.frozen (p := ⟨w.heap.size, 2, none⟩) hs).trans q2.2)
    have hT2 := Lib.hid (hT.keep hB2)
    clear q0 q1 q2 hs hB hB0 HD HM hb2 hs1 hT hB1
    go_wp2_with fail
    refine (HF.out _ hT2.out).mono ?_
    rintro e w3 ⟨rfl, rfl⟩
    clear HF hT2
    go_wp2_with fail
    obtain ⟨g0, g1, g2⟩ := setThree r0 r1 r2 (.int .i64 (2000 + (M : Int) / 12)) (.int .i64 ((M : Int) % 12 + 1)) (.int .i64 ((d : Int) - (F : Int) + 1))
    simp [bodyPost, results, Tryd.results12, go_sem, g0, g1, g2]
    refine ⟨?_, ((hB2.setCell (Nat.le_refl _) _).setCell (Nat.le_refl _) _).setCell (Nat.le_refl _) _⟩
    rw [hdm.out]
    simp

theorem dateIn (Y M : Int) (h1 : 2000 ≤ Y) (h2 : Y ≤ 2099) (h3 : 1 ≤ M) (h4 : M ≤ 12) : ∃ k : Nat, k < 1200 ∧ k = monthNo Y M ∧ (k : Int) = (Y - 2000) * 12 + M - 1 ∧ lenM Y.toNat M.toNat = lenK k := by
  refine ⟨_, ?_, rfl, ?_, ?_⟩
  · unfold monthNo; omega
  · unfold monthNo; omega
  · unfold monthNo lenK
    rw [show 2000 + (12 * (Y.toNat - 2000) + (M.toNat - 1)) / 12 = Y.toNat by omega, show (12 * (Y.toNat - 2000) + (M.toNat - 1)) % 12 + 1 = M.toNat by omega]

theorem cellAlloc2 {w : World} {a : Addr} {v : Value} {o : Obj} (h : w.cell? a = some v) : (w.alloc o).cell? a = some v :=
  (((Below.refl w.heap.size w).alloc (Nat.le_refl _) o).cell (World.block_lt_of_cell? w _ h)).trans h

/-- What the region of Number's last test keeps. -/
theorem num_drew {w w1 : World} {B n : Nat} {D : Int} (h : w1.cell? ⟨B, 2, none⟩ = some (.int .i64 D) ∧ CalTab w1 ∧ Below n w w1) : w1.drew.cell? ⟨B, 2, none⟩ = some (.int .i64 D) ∧ CalTab w1.drew ∧ Below n w w1.drew :=
  ⟨h.1, h.2.1.keep ⟨rfl, rfl, rfl, Nat.le_refl _, fun _ _ => rfl⟩, h.2.2.drew⟩
theorem num_alloc {w w1 : World} {B : Nat} {D : Int} {o : Obj} (h : w1.cell? ⟨B, 2, none⟩ = some (.int .i64 D) ∧ CalTab w1 ∧ Below w.heap.size w w1) : (w1.alloc o).cell? ⟨B, 2, none⟩ = some (.int .i64 D) ∧ CalTab (w1.alloc o) ∧ Below w.heap.size w (w1.alloc o) :=
  ⟨cellAlloc2 h.1, h.2.1.alloc o, h.2.2.alloc h.2.2.size o⟩
theorem num_tab {w w1 : World} {B : Nat} {D : Int} (h : w1.cell? ⟨B, 2, none⟩ = some (.int .i64 D) ∧ CalTab w1 ∧ Below w.heap.size w w1) : CalTab w1 := h.2.1

set_option maxRecDepth 100000 in
set_option maxHeartbeats 1600000 in
theorem calNumber_any (Y M D : Int) (w : World) (hT : CalTab w) : Calls Tryd.prog 16 #[.agg #[.int .i64 Y, .int .i64 M, .int .i64 D]] w fun e w' => e = .returned (.tuple #[.int .i64 (numV Y M D), .int .i64 (numE Y M D)]) ∧ Below w.heap.size w w' := by
  have HW := Lib.hid (fun lo hi x b w1 h => calWithin_one lo hi x b w1 h)
  by_cases cY : 2000 ≤ Y ∧ Y ≤ 2099
  · have dY : (decide (2000 ≤ Y) && decide (Y ≤ 2099)) = true := by simp; omega
    by_cases cM : 1 ≤ M ∧ M ≤ 12
    · have dM : (decide (1 ≤ M) && decide (M ≤ 12)) = true := by simp; omega
      obtain ⟨k, hk, hk2, hk3, hk4⟩ := dateIn Y M cY.1 cY.2 cM.1 cM.2
      have HL := Lib.hid (fun w1 (h : CalTab w1) => length_any k hk w1 h)
      have HF := Lib.hid (fun w1 (h : CalTab w1) => firstDay_any k (by omega) w1 h)
      have hkb : lenK k ≤ 31 := (lenK_bounds k).2
      have hmb : msK k ≤ 36525 := by rw [← ms_end]; exact ms_mono (by omega)
      by_cases cD : 1 ≤ D ∧ D ≤ (lenK k : Int)
      · have hok : dateOk Y M D := by unfold dateOk; rw [hk4]; omega
        have dD : (decide (1 ≤ D) && decide (D ≤ (lenK k : Int))) = true := by simp; omega
        rw [(num_ok hok).1, (num_ok hok).2, ← hk2]
        have hR := Lib.hid (show ((msK k + D.toNat - 1 : Nat) : Int) = (msK k : Int) + D - 1 by omega)
        generalize ((msK k + D.toNat - 1 : Nat) : Int) = R at *
        have hDb : 1 ≤ D ∧ D ≤ 31 := by omega
        have dD2 : decide (D ≤ (lenK k : Int)) = true := decide_eq_true cD.2
        have dD3 : decide (1 ≤ D) = true := decide_eq_true cD.1
        clear hok hk2 hk4 cD
        generalize lenK k = L at *
        generalize msK k = F at *
        go_enter Tryd.func16, Tryd.ntmps16
        go_wp2_with fail
        have hB1 : Below w.heap.size w ((w.alloc (.cells #[.int .i64 Y, .int .i64 M, .int .i64 D] 24)).alloc (.cells #[.int .i64 Y] 3)) := ((Below.refl _ _).alloc (Nat.le_refl _) _).alloc (by simp) _
        have q0 : ((w.alloc (.cells #[.int .i64 Y, .int .i64 M, .int .i64 D] 24)).alloc (.cells #[.int .i64 Y] 3)).cell? ⟨w.heap.size, 0, none⟩ = some (.int .i64 Y) := cellAlloc2 (by simp [go_sem])
        have q1 : ((w.alloc (.cells #[.int .i64 Y, .int .i64 M, .int .i64 D] 24)).alloc (.cells #[.int .i64 Y] 3)).cell? ⟨w.heap.size, 1, none⟩ = some (.int .i64 M) := cellAlloc2 (by simp [go_sem])
        have q2 : ((w.alloc (.cells #[.int .i64 Y, .int .i64 M, .int .i64 D] 24)).alloc (.cells #[.int .i64 Y] 3)).cell? ⟨w.heap.size, 2, none⟩ = some (.int .i64 D) := cellAlloc2 (by simp [go_sem])
        have q3 : ((w.alloc (.cells #[.int .i64 Y, .int .i64 M, .int .i64 D] 24)).alloc (.cells #[.int .i64 Y] 3)).cell? ⟨w.heap.size + 1, 0, none⟩ = some (.int .i64 Y) := by simp [go_sem]
        generalize ((w.alloc (.cells #[.int .i64 Y, .int .i64 M, .int .i64 D] 24)).alloc (.cells #[.int .i64 Y] 3)) = W1 at *
        refine (HW.out _ _ _ _ _ q3).mono ?_
        rintro e w1 ⟨rfl, rfl⟩
        rw [dY]
        clear q3
        go_wp2_with fail
        have hB2 := hB1.alloc (o := .cells #[.int .i64 M] 3) hB1.size
        have r0 := cellAlloc2 (o := .cells #[.int .i64 M] 3) q0
        have r1 := cellAlloc2 (o := .cells #[.int .i64 M] 3) q1
        have r2 := cellAlloc2 (o := .cells #[.int .i64 M] 3) q2
        have r3 : (W1.alloc (.cells #[.int .i64 M] 3)).cell? ⟨W1.heap.size, 0, none⟩ = some (.int .i64 M) := by simp [go_sem]
        clear q0 q1 q2 hB1
        generalize W1.alloc (.cells #[.int .i64 M] 3) = W2 at *
        refine (HW.out 1 12 M _ _ r3).mono ?_
        rintro e w1 ⟨rfl, rfl⟩
        rw [dM]
        clear r3
        go_wp2_with fail
        have hk4 := hk3.symm
        simp only [hk4]
        clear hk3 hk4 dY dM cY cM r0 r1
        have HS0 : W2.cell? ⟨w.heap.size, 2, none⟩ = some (.int .i64 D) ∧ CalTab W2 ∧ Below w.heap.size w W2 := ⟨r2, hT.keep hB2, hB2⟩
        clear r2 hB2
        go_region_held3 (fun w' => w'.cell? ⟨w.heap.size, 2, none⟩ = some (.int .i64 D) ∧ CalTab w' ∧ Below w.heap.size w w')
          (first
            | assumption
            | exact num_drew (by assumption)
            | exact num_alloc (by assumption))
          (first
            | (go_at_call 39; refine (HL.out _ ?_).mono ?_; exact num_tab (by assumption); rintro e w' ⟨rfl, rfl⟩)
            | (go_at_call 38; refine (HW.out 1 L D _ _ ?_).mono ?_; simp [go_sem]; rintro e w' ⟨rfl, rfl⟩))
        all_goals
          have hB3 : Below w.heap.size w ((W2.alloc (.cells #[.int .i64 D] 3)).drew) := (num_drew (num_alloc HS0)).2.2
          have t2 : ((W2.alloc (.cells #[.int .i64 D] 3)).drew).cell? ⟨w.heap.size, 2, none⟩ = some (.int .i64 D) := (num_drew (num_alloc HS0)).1
          have hT3 : CalTab ((W2.alloc (.cells #[.int .i64 D] 3)).drew) := (num_drew (num_alloc HS0)).2.1
          generalize (W2.alloc (.cells #[.int .i64 D] 3)).drew = W3 at *
          have HQ := Lib.hid (fun m => (HF.out (W3.drewN m) (hT3.drewN m)).mono fun _ _ h => (⟨h.1, h.2.symm⟩ : _ ∧ _))
          clear HS0 hT3 HF HL HW hT
          go_wp2_with fail
          go_quiet ((go_at_call 35; refine Calls.quiet_of_same (HQ.out _)))
          go_wp2_with fail
          go_ret2
          exact ⟨by rw [hR.out]; rfl, below_drewN hB3 _⟩
      · have hbad : ¬ dateOk Y M D := by unfold dateOk; rw [hk4]; omega
        rw [(num_bad hbad).1, (num_bad hbad).2]
        have dD : (decide (1 ≤ D) && decide (D ≤ (lenK k : Int))) = false := by simp; omega
        clear hbad hk2 hk4 HF
        generalize lenK k = L at *
        generalize msK k = F at *
        go_enter Tryd.func16, Tryd.ntmps16
        go_wp2_with fail
        have hB1 : Below w.heap.size w ((w.alloc (.cells #[.int .i64 Y, .int .i64 M, .int .i64 D] 24)).alloc (.cells #[.int .i64 Y] 3)) := ((Below.refl _ _).alloc (Nat.le_refl _) _).alloc (by simp) _
        have q0 : ((w.alloc (.cells #[.int .i64 Y, .int .i64 M, .int .i64 D] 24)).alloc (.cells #[.int .i64 Y] 3)).cell? ⟨w.heap.size, 0, none⟩ = some (.int .i64 Y) := cellAlloc2 (by simp [go_sem])
        have q1 : ((w.alloc (.cells #[.int .i64 Y, .int .i64 M, .int .i64 D] 24)).alloc (.cells #[.int .i64 Y] 3)).cell? ⟨w.heap.size, 1, none⟩ = some (.int .i64 M) := cellAlloc2 (by simp [go_sem])
        have q2 : ((w.alloc (.cells #[.int .i64 Y, .int .i64 M, .int .i64 D] 24)).alloc (.cells #[.int .i64 Y] 3)).cell? ⟨w.heap.size, 2, none⟩ = some (.int .i64 D) := cellAlloc2 (by simp [go_sem])
        have q3 : ((w.alloc (.cells #[.int .i64 Y, .int .i64 M, .int .i64 D] 24)).alloc (.cells #[.int .i64 Y] 3)).cell? ⟨w.heap.size + 1, 0, none⟩ = some (.int .i64 Y) := by simp [go_sem]
        generalize ((w.alloc (.cells #[.int .i64 Y, .int .i64 M, .int .i64 D] 24)).alloc (.cells #[.int .i64 Y] 3)) = W1 at *
        refine (HW.out _ _ _ _ _ q3).mono ?_
        rintro e w1 ⟨rfl, rfl⟩
        rw [dY]
        clear q3
        go_wp2_with fail
        have hB2 := hB1.alloc (o := .cells #[.int .i64 M] 3) hB1.size
        have r0 := cellAlloc2 (o := .cells #[.int .i64 M] 3) q0
        have r1 := cellAlloc2 (o := .cells #[.int .i64 M] 3) q1
        have r2 := cellAlloc2 (o := .cells #[.int .i64 M] 3) q2
        have r3 : (W1.alloc (.cells #[.int .i64 M] 3)).cell? ⟨W1.heap.size, 0, none⟩ = some (.int .i64 M) := by simp [go_sem]
        clear q0 q1 q2 hB1
        generalize W1.alloc (.cells #[.int .i64 M] 3) = W2 at *
        refine (HW.out 1 12 M _ _ r3).mono ?_
        rintro e w1 ⟨rfl, rfl⟩
        rw [dM]
        clear r3
        go_wp2_with fail
        have hk4 := hk3.symm
        simp only [hk4]
        clear hk3 hk4 dY dM cY cM r0 r1
        have HS0 : W2.cell? ⟨w.heap.size, 2, none⟩ = some (.int .i64 D) ∧ CalTab W2 ∧ Below w.heap.size w W2 := ⟨r2, hT.keep hB2, hB2⟩
        clear r2 hB2
        go_region_held3 (fun w' => w'.cell? ⟨w.heap.size, 2, none⟩ = some (.int .i64 D) ∧ CalTab w' ∧ Below w.heap.size w w')
          (first
            | assumption
            | exact num_drew (by assumption)
            | exact num_alloc (by assumption))
          (first
            | (go_at_call 39; refine (HL.out _ ?_).mono ?_; exact num_tab (by assumption); rintro e w' ⟨rfl, rfl⟩)
            | (go_at_call 38; refine (HW.out 1 L D _ _ ?_).mono ?_; simp [go_sem]; rintro e w' ⟨rfl, rfl⟩))
        all_goals
          have hB3 : Below w.heap.size w ((W2.alloc (.cells #[.int .i64 D] 3)).drew) := (num_drew (num_alloc HS0)).2.2
          generalize (W2.alloc (.cells #[.int .i64 D] 3)).drew = W3 at *
          clear HS0 HL HW hT
          go_wp2_with fail
          go_ret2
          exact ⟨rfl, hB3⟩
    · have hbad : ¬ dateOk Y M D := by unfold dateOk; omega
      rw [(num_bad hbad).1, (num_bad hbad).2]
      have dM : (decide (1 ≤ M) && decide (M ≤ 12)) = false := by simp; omega
      clear hbad cM
      go_enter Tryd.func16, Tryd.ntmps16
      go_wp2_with fail
      have hB1 : Below w.heap.size w ((w.alloc (.cells #[.int .i64 Y, .int .i64 M, .int .i64 D] 24)).alloc (.cells #[.int .i64 Y] 3)) := ((Below.refl _ _).alloc (Nat.le_refl _) _).alloc (by simp) _
      have q0 : ((w.alloc (.cells #[.int .i64 Y, .int .i64 M, .int .i64 D] 24)).alloc (.cells #[.int .i64 Y] 3)).cell? ⟨w.heap.size, 0, none⟩ = some (.int .i64 Y) := cellAlloc2 (by simp [go_sem])
      have q1 : ((w.alloc (.cells #[.int .i64 Y, .int .i64 M, .int .i64 D] 24)).alloc (.cells #[.int .i64 Y] 3)).cell? ⟨w.heap.size, 1, none⟩ = some (.int .i64 M) := cellAlloc2 (by simp [go_sem])
      have q2 : ((w.alloc (.cells #[.int .i64 Y, .int .i64 M, .int .i64 D] 24)).alloc (.cells #[.int .i64 Y] 3)).cell? ⟨w.heap.size, 2, none⟩ = some (.int .i64 D) := cellAlloc2 (by simp [go_sem])
      have q3 : ((w.alloc (.cells #[.int .i64 Y, .int .i64 M, .int .i64 D] 24)).alloc (.cells #[.int .i64 Y] 3)).cell? ⟨w.heap.size + 1, 0, none⟩ = some (.int .i64 Y) := by simp [go_sem]
      generalize ((w.alloc (.cells #[.int .i64 Y, .int .i64 M, .int .i64 D] 24)).alloc (.cells #[.int .i64 Y] 3)) = W1 at *
      refine (HW.out _ _ _ _ _ q3).mono ?_
      rintro e w1 ⟨rfl, rfl⟩
      rw [dY]
      clear q3
      go_wp2_with fail
      have hB2 := hB1.alloc (o := .cells #[.int .i64 M] 3) hB1.size
      refine (HW.out 1 12 M W1.heap.size _ (by simp [go_sem])).mono ?_
      rintro e w1 ⟨rfl, rfl⟩
      rw [dM]
      go_wp2_with fail
      go_ret2
      exact ⟨rfl, hB2⟩
  · have hbad : ¬ dateOk Y M D := by unfold dateOk; omega
    rw [(num_bad hbad).1, (num_bad hbad).2]
    have dY : (decide (2000 ≤ Y) && decide (Y ≤ 2099)) = false := by simp; omega
    clear hbad cY
    go_enter Tryd.func16, Tryd.ntmps16
    go_wp2_with fail
    have hB1 : Below w.heap.size w ((w.alloc (.cells #[.int .i64 Y, .int .i64 M, .int .i64 D] 24)).alloc (.cells #[.int .i64 Y] 3)) := ((Below.refl _ _).alloc (Nat.le_refl _) _).alloc (by simp) _
    have q0 : ((w.alloc (.cells #[.int .i64 Y, .int .i64 M, .int .i64 D] 24)).alloc (.cells #[.int .i64 Y] 3)).cell? ⟨w.heap.size, 0, none⟩ = some (.int .i64 Y) := cellAlloc2 (by simp [go_sem])
    have q1 : ((w.alloc (.cells #[.int .i64 Y, .int .i64 M, .int .i64 D] 24)).alloc (.cells #[.int .i64 Y] 3)).cell? ⟨w.heap.size, 1, none⟩ = some (.int .i64 M) := cellAlloc2 (by simp [go_sem])
    have q2 : ((w.alloc (.cells #[.int .i64 Y, .int .i64 M, .int .i64 D] 24)).alloc (.cells #[.int .i64 Y] 3)).cell? ⟨w.heap.size, 2, none⟩ = some (.int .i64 D) := cellAlloc2 (by simp [go_sem])
    have q3 : ((w.alloc (.cells #[.int .i64 Y, .int .i64 M, .int .i64 D] 24)).alloc (.cells #[.int .i64 Y] 3)).cell? ⟨w.heap.size + 1, 0, none⟩ = some (.int .i64 Y) := by simp [go_sem]
    generalize ((w.alloc (.cells #[.int .i64 Y, .int .i64 M, .int .i64 D] 24)).alloc (.cells #[.int .i64 Y] 3)) = W1 at *
    refine (HW.out _ _ _ _ _ q3).mono ?_
    rintro e w1 ⟨rfl, rfl⟩
    rw [dY]
    clear q3
    go_wp2_with fail
    go_ret2
    exact ⟨rfl, hB1⟩
end Go.Proofs.YtnegiopbccllcaaDoor
