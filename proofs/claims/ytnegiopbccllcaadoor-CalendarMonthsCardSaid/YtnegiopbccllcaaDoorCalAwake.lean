/- The sanity check of layer 4's laws returns true. No condition. -/
import Derived.Test.YtnegiopbccllcaaDoorCalCode5
namespace Go.Proofs.YtnegiopbccllcaaDoor
open Go.RowKit

theorem awake4_vals : numV 2000 3 1 = 60 ∧ numE 2000 3 1 = 0 ∧ amV 30 1 = 59 ∧ amE 30 1 = 0 ∧ dlV 1 (litI [2]) 0 0 0 0 = 3 ∧ dlE 1 (litI [2]) 0 0 0 0 = 0 ∧ (if dayB 0 then ((0 : Int) + 5) % 7 else -1) = 5 := by
  refine ⟨?_, ?_, ?_, ?_, ?_, ?_, ?_⟩ <;> decide +kernel

set_option maxHeartbeats 800000 in
theorem awake4_any (w : World) (hT : CalTab w) : Calls Tryd.prog 17 #[] w fun e w' => e = .returned (.bool true) ∧ Below w.heap.size w w' := by
  obtain ⟨p1, p2, p3, p4, p5, p6, p7⟩ := awake4_vals
  have H1 := Lib.hid (fun w1 (h : CalTab w1) => calNumber_any 2000 3 1 w1 h)
  have H2 := Lib.hid (fun w1 (h : CalTab w1) => calAddMonths_any 30 1 w1 h)
  have H3 := Lib.hid (fun w1 h => calDeadline_any _ 1 _ 0 0 0 0 _ (lit_at [2] (by decide) (by decide) w1) h)
  have H4 := Lib.hid (calWeekday_any 0)
  rw [p1, p2] at H1
  rw [p3, p4] at H2
  rw [p5, p6] at H3
  rw [p7] at H4
  clear p1 p2 p3 p4 p5 p6 p7
  go_enter Tryd.func17, Tryd.ntmps17
  go_wp2_with fail
  refine (H1.out _ (by first | exact hT.keep (by assumption) | exact hTb.keep (by assumption) | exact hTb | exact hT)).mono ?_
  rintro e w1 ⟨rfl, hB1⟩
  go_wp2_with fail
  refine (H2.out _ (by first | exact hT.keep (by assumption) | exact hTb.keep (by assumption) | exact hTb | exact hT)).mono ?_
  rintro e w2 ⟨rfl, hb2⟩
  have hB2 := hB1.trans (hb2.mono hB1.size)
  go_wp2_with fail
  refine (H3.out w2 ((hT.keep hB2).alloc _)).mono ?_
  rintro e w3 ⟨rfl, hb3⟩
  have hB3 : Below w.heap.size w w3 := hB2.trans ((((Below.refl w2.heap.size w2).alloc (Nat.le_refl _) _).trans (hb3.mono (by simp))).mono hB2.size)
  go_wp2_with fail
  refine (H4.out _).mono ?_
  rintro e w4 ⟨rfl, hb4⟩
  have hB4 := hB3.trans (hb4.mono hB3.size)
  go_wp2_with fail
  go_ret
  exact ⟨rfl, hB4⟩
end Go.Proofs.YtnegiopbccllcaaDoor
