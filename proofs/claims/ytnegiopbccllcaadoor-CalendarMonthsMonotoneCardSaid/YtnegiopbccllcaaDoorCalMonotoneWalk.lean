/- The law CalendarMonthsMonotone, walked: it returns true at every input. No condition. -/
import Derived.Test.YtnegiopbccllcaaDoorCalDatesWalk
namespace Go.Proofs.YtnegiopbccllcaaDoor
open Go.RowKit

/-- What the answer without an error is. -/
theorem am_ok {x n : Int} (h : amE x n = 0) : 0 ≤ x ∧ x ≤ 36524 ∧ -1200 ≤ n ∧ n ≤ 1200 ∧ 0 ≤ amK x n ∧ amK x n < 1200 ∧ amV x n = (amDay x.toNat (amK x n).toNat : Int) := by
  unfold amE at h
  by_cases hb : amBad x n = true
  · rw [if_pos hb] at h
    cases h
  · rw [if_neg hb] at h
    by_cases hi : amIn x n = true
    · have e : amV x n = (amDay x.toNat (amK x n).toNat : Int) := by
        unfold amV
        rw [if_neg hb, if_pos hi]
      rw [Bool.not_eq_true] at hb
      unfold amBad at hb
      simp only [Bool.or_eq_false_iff, decide_eq_false_iff_not, Bool.not_eq_false'] at hb
      unfold amIn at hi
      simp only [Bool.and_eq_true, decide_eq_true_eq] at hi
      obtain ⟨h1, h2, h3⟩ := hb
      have hd := (dayB_iff x).1 h1
      exact ⟨hd.1, hd.2, by omega, by omega, hi.1, hi.2, e⟩
    · rw [if_neg hi] at h
      cases h

theorem mono_days {x y n : Int} (h : x ≤ y) (h1 : amE x n = 0) (h2 : amE y n = 0) : amV x n ≤ amV y n := by
  obtain ⟨a1, a2, a3, a4, a5, a6, a7⟩ := am_ok h1
  obtain ⟨b1, b2, b3, b4, b5, b6, b7⟩ := am_ok h2
  rw [a7, b7]
  unfold amK at *
  have hm := month_mono (d := x.toNat) (e := y.toNat) (by omega)
  have := am_mono (d := x.toNat) (e := y.toNat) (a := ((monthOf x.toNat : Int) + n).toNat) (b := ((monthOf y.toNat : Int) + n).toNat) (by omega) (by omega) (by omega) (by omega)
  omega

theorem twice_days {x n k : Int} (h1 : amE x n = 0) (h2 : amE x (n + k) = 0) (h3 : amE (amV x n) k = 0) : amV (amV x n) k ≤ amV x (n + k) ∧ amV x (n + k) - amV (amV x n) k ≤ 3 := by
  obtain ⟨a1, a2, a3, a4, a5, a6, a7⟩ := am_ok h1
  obtain ⟨b1, b2, b3, b4, b5, b6, b7⟩ := am_ok h2
  obtain ⟨c1, c2, c3, c4, c5, c6, c7⟩ := am_ok h3
  rw [c7, b7]
  have hsp := am_spec x.toNat (amK x n).toNat
  have e0 : (amV x n).toNat = amDay x.toNat (amK x n).toNat := by rw [a7]; rfl
  have e1 : (amK (amV x n) k).toNat = (amK x (n + k)).toNat := by
    unfold amK at *
    rw [e0, hsp.1]
    omega
  rw [e0, e1]
  have := am_twice x.toNat (amK x n).toNat (amK x (n + k)).toNat
  omega

set_option maxHeartbeats 1600000 in
theorem calendarMonthsMonotone_walk {w : World} (hT : CalTab w) (x0 m0 n0 k0 : Int) : Calls Tryd.prog 7 #[.int .i64 x0, .int .i64 m0, .int .i64 n0, .int .i64 k0] w fun e w' => e = .returned (.bool true) ∧ Below w.heap.size w w' := by
  have HD := Lib.hid (madeDay_any x0)
  have HW := Lib.hid (madeWithin_any m0 100 (by omega) (by omega))
  have HN := Lib.hid (madeWithin_any n0 600 (by omega) (by omega))
  have HK := Lib.hid (madeWithin_any k0 600 (by omega) (by omega))
  have b1 : 0 ≤ x0 % 36525 ∧ x0 % 36525 < 36525 := by omega
  have b2 : 0 ≤ m0 % 100 ∧ m0 % 100 < 100 := by omega
  have b3 : 0 ≤ n0 % 600 ∧ n0 % 600 < 600 := by omega
  have b4 : 0 ≤ k0 % 600 ∧ k0 % 600 < 600 := by omega
  generalize x0 % 36525 = x at *
  generalize m0 % 100 = m at *
  generalize n0 % 600 = n at *
  generalize k0 % 600 = k at *
  have H1 := Lib.hid (fun w1 (h : CalTab w1) => calAddMonths_any x n w1 h)
  have H2 := Lib.hid (fun w1 (h : CalTab w1) => calAddMonths_any (x + m) n w1 h)
  have H3 := Lib.hid (fun w1 (h : CalTab w1) => calAddMonths_any x (n + k) w1 h)
  have H4 := Lib.hid (fun w1 (h : CalTab w1) => calAddMonths_any (amV x n) k w1 h)
  have hm1 := Lib.hid (mono_days (x := x) (y := x + m) (n := n) (by omega))
  have hm2 := Lib.hid (twice_days (x := x) (n := n) (k := k))
  have hr1 := am_range x n
  have hr2 := am_range (x + m) n
  have hr3 := am_range x (n + k)
  have hr4 := am_range (amV x n) k
  generalize amV (amV x n) k = D at *
  generalize amE (amV x n) k = De at *
  generalize amV x n = A at *
  generalize amE x n = Ae at *
  generalize amV (x + m) n = B at *
  generalize amE (x + m) n = Be at *
  generalize amV x (n + k) = C at *
  generalize amE x (n + k) = Ce at *
  have two : ∀ z : Int, z = 0 ∨ ((z == 0) = false ∧ (z != 0) = true) := fun z => by
    by_cases h : z = 0
    · exact .inl h
    · exact .inr ⟨by rw [beq_eq_false_iff_ne]; exact h, by rw [bne_iff_ne]; exact h⟩
  have sAe := two Ae
  have sBe := two Be
  have sCe := two Ce
  have sDe := two De
  clear two
  rcases sAe with rfl | ⟨a1, a2⟩
  · have hd : (Ce = 0 ∧ De = 0 ∧ decide (D ≤ C) = true ∧ decide (C - D ≤ 3) = true) ∨ (Ce = 0 ∧ (De == 0) = false ∧ (De != 0) = true) ∨ ((Ce == 0) = false ∧ (Ce != 0) = true) := by
      rcases sCe with rfl | h
      · rcases sDe with rfl | h2
        · have := hm2.out rfl rfl rfl
          exact .inl ⟨rfl, rfl, decide_eq_true (by omega), decide_eq_true (by omega)⟩
        · exact .inr (.inl ⟨rfl, h2⟩)
      · exact .inr (.inr h)
    have hc : (Be = 0 ∧ decide (B < A) = false) ∨ ((Be == 0) = false ∧ (Be != 0) = true) := by
      rcases sBe with rfl | h
      · have := hm1.out rfl rfl
        exact .inl ⟨rfl, decide_eq_false (by omega)⟩
      · exact .inr h
    clear hm1 hm2 sBe sCe sDe
    rcases hc with ⟨rfl, c1⟩ | ⟨c1, c2⟩
    all_goals
      rcases hd with ⟨rfl, rfl, d1, d2⟩ | ⟨rfl, d1, d2⟩ | ⟨d1, d2⟩
      all_goals
        go_enter Tryd.func7, Tryd.ntmps7
        go_wp2_with fail
        refine (HD.out _).mono ?_
        rintro e w1 ⟨rfl, rfl⟩
        go_wp2_with fail
        refine (HW.out _).mono ?_
        rintro e w1 ⟨rfl, rfl⟩
        go_wp2_with fail
        refine (HN.out _).mono ?_
        rintro e w1 ⟨rfl, rfl⟩
        go_wp2_with fail
        refine (HK.out _).mono ?_
        rintro e w1 ⟨rfl, rfl⟩
        go_wp2_with fail
        have hB0 := Below.refl w.heap.size w
        refine (H1.out _ (by first | exact hT.keep (by assumption) | exact hTb.keep (by assumption) | exact hTb | exact hT)).mono ?_
        rintro e w1 ⟨rfl, hb1⟩
        have hB1 := hB0.trans (hb1.mono hB0.size)
        go_wp2_with fail
        refine (H2.out _ (by first | exact hT.keep (by assumption) | exact hTb.keep (by assumption) | exact hTb | exact hT)).mono ?_
        rintro e w2 ⟨rfl, hb2⟩
        have hB2 := hB1.trans (hb2.mono hB1.size)
        go_wp2_with fail
        refine (H3.out _ (by first | exact hT.keep (by assumption) | exact hTb.keep (by assumption) | exact hTb | exact hT)).mono ?_
        rintro e w3 ⟨rfl, hb3⟩
        have hB3 := hB2.trans (hb3.mono hB2.size)
        go_wp2_with fail
        refine (H4.out _ (by first | exact hT.keep (by assumption) | exact hTb.keep (by assumption) | exact hTb | exact hT)).mono ?_
        rintro e w4 ⟨rfl, hb4⟩
        have hB4 := hB3.trans (hb4.mono hB3.size)
        go_wp2_with fail
        refine (awake4_any _ (by first | exact hT.keep (by assumption) | exact hTb.keep (by assumption) | exact hTb | exact hT)).mono ?_
        rintro e w6 ⟨rfl, hb6⟩
        have hB6 := hB4.trans (hb6.mono hB4.size)
        go_wp2_with fail
        go_ret
        exact ⟨rfl, hB6⟩
  · clear hm1 hm2 sBe sCe sDe
    go_enter Tryd.func7, Tryd.ntmps7
    go_wp2_with fail
    refine (HD.out _).mono ?_
    rintro e w1 ⟨rfl, rfl⟩
    go_wp2_with fail
    refine (HW.out _).mono ?_
    rintro e w1 ⟨rfl, rfl⟩
    go_wp2_with fail
    refine (HN.out _).mono ?_
    rintro e w1 ⟨rfl, rfl⟩
    go_wp2_with fail
    refine (HK.out _).mono ?_
    rintro e w1 ⟨rfl, rfl⟩
    go_wp2_with fail
    have hB0 := Below.refl w.heap.size w
    refine (H1.out _ (by first | exact hT.keep (by assumption) | exact hTb.keep (by assumption) | exact hTb | exact hT)).mono ?_
    rintro e w1 ⟨rfl, hb1⟩
    have hB1 := hB0.trans (hb1.mono hB0.size)
    go_wp2_with fail
    refine (H2.out _ (by first | exact hT.keep (by assumption) | exact hTb.keep (by assumption) | exact hTb | exact hT)).mono ?_
    rintro e w2 ⟨rfl, hb2⟩
    have hB2 := hB1.trans (hb2.mono hB1.size)
    go_wp2_with fail
    refine (H3.out _ (by first | exact hT.keep (by assumption) | exact hTb.keep (by assumption) | exact hTb | exact hT)).mono ?_
    rintro e w3 ⟨rfl, hb3⟩
    have hB3 := hB2.trans (hb3.mono hB2.size)
    go_wp2_with fail
    refine (H4.out _ (by first | exact hT.keep (by assumption) | exact hTb.keep (by assumption) | exact hTb | exact hT)).mono ?_
    rintro e w4 ⟨rfl, hb4⟩
    have hB4 := hB3.trans (hb4.mono hB3.size)
    go_wp2_with fail
    refine (awake4_any _ (by first | exact hT.keep (by assumption) | exact hTb.keep (by assumption) | exact hTb | exact hT)).mono ?_
    rintro e w6 ⟨rfl, hb6⟩
    have hB6 := hB4.trans (hb6.mono hB4.size)
    go_wp2_with fail
    go_ret
    exact ⟨rfl, hB6⟩
end Go.Proofs.YtnegiopbccllcaaDoor
