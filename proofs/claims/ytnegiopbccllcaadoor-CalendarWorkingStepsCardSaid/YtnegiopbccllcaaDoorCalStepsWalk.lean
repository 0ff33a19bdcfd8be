/- The law CalendarWorkingSteps, walked: it returns true at every input. No condition. -/
import Derived.Test.YtnegiopbccllcaaDoorCalDeadlineWalk
namespace Go.Proofs.YtnegiopbccllcaaDoor
open Go.RowKit

/-- Working days one after the other. -/
theorem steps_days (N : Nat) (g : Nat → Int) (x n k : Int) (hx : 0 ≤ x ∧ x ≤ 36524) (hn : 0 ≤ n ∧ n < 40) (hk : 0 ≤ k ∧ k < 40) :
    (awE N g x n ≠ 0 ∧ awE N g x (n + k) = awE N g x n) ∨ (awE N g x n = 0 ∧ awE N g x (n + k) = awE N g (awV N g x n) k ∧ awV N g x (n + k) = awV N g (awV N g x n) k) := by
  by_cases hv : validE N g = 0
  · have hd : dayB x = true := (dayB_iff _).2 hx
    have i1 : awIn x n = true := by unfold awIn; rw [hd]; simp; omega
    have i2 : awIn x (n + k) = true := by unfold awIn; rw [hd]; simp; omega
    have e1 : awE N g x n = outE (awR N g x.toNat n.toNat) := by unfold awE; rw [if_pos hv, if_pos i1]
    have e2 : awE N g x (n + k) = outE (awR N g x.toNat (n + k).toNat) := by unfold awE; rw [if_pos hv, if_pos i2]
    have e3 : awV N g x n = outV (awR N g x.toNat n.toNat) := by unfold awV; rw [if_pos hv, if_pos i1]
    have e4 : awV N g x (n + k) = outV (awR N g x.toNat (n + k).toNat) := by unfold awV; rw [if_pos hv, if_pos i2]
    have ha : awR N g x.toNat (n + k).toNat = (awR N g x.toNat n.toNat).bind fun r => advN (wkB N g) (36524 - x.toNat - (r - x.toNat)) r k.toNat := by
      unfold awR
      rw [show (n + k).toNat = n.toNat + k.toNat by omega, adv_add]
    rw [e1, e2, e3, e4, ha]
    cases hr : awR N g x.toNat n.toNat with
    | none => exact .inl ⟨by decide, rfl⟩
    | some r =>
      have hb := adv_ge _ _ _ _ _ hr
      have hd2 : dayB (r : Int) = true := (dayB_iff _).2 (by omega)
      have i3 : awIn (r : Int) k = true := by unfold awIn; rw [hd2]; simp; omega
      have e5 : awE N g (r : Int) k = outE (awR N g r k.toNat) := by unfold awE; rw [if_pos hv, if_pos i3]; rfl
      have e6 : awV N g (r : Int) k = outV (awR N g r k.toNat) := by unfold awV; rw [if_pos hv, if_pos i3]; rfl
      refine .inr ⟨rfl, ?_, ?_⟩
      · show outE (advN _ _ _ _) = awE N g (r : Int) k
        rw [e5, show 36524 - x.toNat - (r - x.toNat) = 36524 - r by omega]
        rfl
      · show outV (advN _ _ _ _) = awV N g (r : Int) k
        rw [e6, show 36524 - x.toNat - (r - x.toNat) = 36524 - r by omega]
        rfl
  · have e1 : awE N g x n = validE N g := if_neg hv
    have e2 : awE N g x (n + k) = validE N g := if_neg hv
    rw [e1, e2]
    exact .inl ⟨hv, rfl⟩

set_option maxHeartbeats 1600000 in
theorem calSteps_made (v u : Value) (n k : Nat) (f : Nat → Int) (x0 m0 d0 : Int) (w : World) (hT : CalTab w) (h : CutAt 100 w v n f u k) : Calls Tryd.prog 9 #[v, .int .i64 x0, .int .i64 m0, .int .i64 d0] w fun e w' => e = .returned (.bool true) ∧ Below w.heap.size w w' := by
  obtain ⟨hl0, hst⟩ := h
  have HH := Lib.hid (madeHolidays_any u k f w hl0)
  have HD := Lib.hid (madeDay_any x0)
  have HM := Lib.hid (madeWithin_any m0 40 (by omega) (by omega))
  have HY := Lib.hid (madeWithin_any d0 40 (by omega) (by omega))
  have b1 : 0 ≤ x0 % 36525 ∧ x0 % 36525 < 36525 := by omega
  have b2 : 0 ≤ m0 % 40 ∧ m0 % 40 < 40 := by omega
  have b3 : 0 ≤ d0 % 40 ∧ d0 % 40 < 40 := by omega
  generalize x0 % 36525 = x at *
  generalize m0 % 40 = m at *
  generalize d0 % 40 = d at *
  clear hl0
  rcases hst with ⟨rfl, rfl⟩ | ⟨a, cap, rfl, h1, rfl⟩ | ⟨a, cap, rfl, h1, h2, rfl⟩
  all_goals
    go_enter Tryd.func9, Tryd.ntmps9
    go_wp2_with fail
    refine (HH.out).mono ?_
    rintro e wb ⟨u2, n2, g2, rfl, hl, hBw⟩
    have hTb := hT.keep hBw
    clear HH
    go_wp2_with fail
    refine (HD.out _).mono ?_
    rintro e w1 ⟨rfl, rfl⟩
    go_wp2_with fail
    refine (HM.out _).mono ?_
    rintro e w1 ⟨rfl, rfl⟩
    go_wp2_with fail
    refine (HY.out _).mono ?_
    rintro e w1 ⟨rfl, rfl⟩
    clear HD HM HY
    have H1 := Lib.hid (fun w1 (hb : Below wb.heap.size wb w1) => calAdd_any u2 n2 g2 x (m + d) w1 (listAt_below hl hb))
    have H2 := Lib.hid (fun w1 (hb : Below wb.heap.size wb w1) => calAdd_any u2 n2 g2 x m w1 (listAt_below hl hb))
    have H3 := Lib.hid (fun w1 (hb : Below wb.heap.size wb w1) => calAdd_any u2 n2 g2 (awV n2 g2 x m) d w1 (listAt_below hl hb))
    rcases steps_days n2 g2 x m d (by omega) (by omega) (by omega) with ⟨hE, s1⟩ | ⟨hE, s1, s2⟩
    · rw [s1] at H1
      have d1 : (awE n2 g2 x m != 0) = true := by rw [bne_iff_ne]; exact hE
      clear hE s1 hl H3
      generalize awE n2 g2 x m = E at *
      generalize awV n2 g2 x m = V at *
      generalize awV n2 g2 x (m + d) = V2 at *
      go_wp2_with fail
      refine (H1.out wb (Below.refl _ _)).mono ?_
      rintro e w1 ⟨rfl, hB1⟩
      go_wp2_with fail
      refine (H2.out w1 hB1).mono ?_
      rintro e w2 ⟨rfl, hb2⟩
      have hB2 := hB1.trans (hb2.mono hB1.size)
      clear H1 H2 hb2 hB1
      go_wp2_with fail
      refine (awake4_any _ (by first | exact hT.keep (by assumption) | exact hTb.keep (by assumption) | exact hTb | exact hT)).mono ?_
      rintro e w6 ⟨rfl, hb6⟩
      have hB6 := hB2.trans (hb6.mono hB2.size)
      go_wp2_with fail
      go_ret
      exact ⟨rfl, hBw.trans (hB6.mono hBw.size)⟩
    · rw [s1, s2] at H1
      rw [hE] at H2
      clear hE s1 s2 hl
      generalize awV n2 g2 x m = V at *
      generalize awV n2 g2 V d = V2 at *
      generalize awE n2 g2 V d = E at *
      go_wp2_with fail
      refine (H1.out wb (Below.refl _ _)).mono ?_
      rintro e w1 ⟨rfl, hB1⟩
      go_wp2_with fail
      refine (H2.out w1 hB1).mono ?_
      rintro e w2 ⟨rfl, hb2⟩
      have hB2 := hB1.trans (hb2.mono hB1.size)
      clear H1 H2 hb2 hB1
      go_wp2_with fail
      refine (H3.out w2 hB2).mono ?_
      rintro e w3 ⟨rfl, hb3⟩
      have hB3 := hB2.trans (hb3.mono hB2.size)
      clear H3
      go_wp2_with fail
      refine (awake4_any _ (by first | exact hT.keep (by assumption) | exact hTb.keep (by assumption) | exact hTb | exact hT)).mono ?_
      rintro e w6 ⟨rfl, hb6⟩
      have hB6 := hB3.trans (hb6.mono hB3.size)
      go_wp2_with fail
      go_ret
      exact ⟨rfl, hBw.trans (hB6.mono hBw.size)⟩

theorem calendarWorkingSteps_walk {w : World} (hT : CalTab w) (v : Value) (n : Nat) (f : Nat → Int) (h : ListAt w .i64 v n f) (x m d : Int) : Calls Tryd.prog 9 #[v, .int .i64 x, .int .i64 m, .int .i64 d] w fun e w' => e = .returned (.bool true) ∧ Below w.heap.size w w' := by
  obtain ⟨u, k, hc⟩ := cut_at 100 h
  exact calSteps_made v u n k f x m d w hT hc
end Go.Proofs.YtnegiopbccllcaaDoor
