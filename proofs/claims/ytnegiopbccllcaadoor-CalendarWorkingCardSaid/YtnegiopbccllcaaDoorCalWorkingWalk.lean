/- The law CalendarWorking, walked: it returns true at every input. No condition. -/
import Derived.Test.YtnegiopbccllcaaDoorCalDeadlineWalk
namespace Go.Proofs.YtnegiopbccllcaaDoor
open Go.RowKit

set_option maxHeartbeats 1600000 in
theorem calWorking_raw (v u : Value) (n k : Nat) (f : Nat → Int) (x m : Int) (w : World) (hT : CalTab w) (h : CutAt 300 w v n f u k) : Calls Tryd.prog 8 #[v, .int .i64 x, .int .i64 m, .bool true] w fun e w' => e = .returned (.bool true) ∧ Below w.heap.size w w' := by
  obtain ⟨hl, hst⟩ := h
  have H1 := Lib.hid (fun w1 (hb : Below w.heap.size w w1) => calValid_any u k f w1 (listAt_below hl hb))
  have H2 := Lib.hid (fun w1 (hb : Below w.heap.size w w1) => refValid_any u k f w1 (listAt_below hl hb))
  have H4 := Lib.hid (fun w1 (hb : Below w.heap.size w w1) => refWorking_any u k f x w1 (listAt_below hl hb))
  have H5 := Lib.hid (fun w1 (hb : Below w.heap.size w w1) => calNext_any u k f x w1 (listAt_below hl hb))
  have H6 := Lib.hid (fun w1 (hb : Below w.heap.size w w1) => refNext_any u k f x w1 (listAt_below hl hb))
  have H7 := Lib.hid (fun w1 (hb : Below w.heap.size w w1) => calAdd_any u k f x m w1 (listAt_below hl hb))
  have H8 := Lib.hid (fun w1 (hb : Below w.heap.size w w1) => refAdd_any u k f x m w1 (listAt_below hl hb))
  generalize nwV k f x = A at *
  generalize nwE k f x = Ae at *
  generalize awV k f x m = C at *
  generalize awE k f x m = Ce at *
  by_cases hE : validE k f = 0
  · have H3 := Lib.hid (fun w1 (hb : Below w.heap.size w w1) => calWorking_any u k f x w1 (listAt_below hl hb) hE)
    rw [hE] at H1 H2
    clear hE hl
    generalize workB k f x = R at *
    rcases hst with ⟨rfl, rfl⟩ | ⟨a, cap, rfl, h1, rfl⟩ | ⟨a, cap, rfl, h1, h2, rfl⟩
    all_goals
      go_enter Tryd.func8, Tryd.ntmps8
      go_wp2_with fail
      have hB0 := Below.refl w.heap.size w
      refine (H1.out _ hB0).mono ?_
      rintro e w1 ⟨rfl, hb1⟩
      have hB1 := hB0.trans (hb1.mono hB0.size)
      go_wp2_with fail
      refine (H2.out _ hB1).mono ?_
      rintro e w2 ⟨rfl, m2, rfl⟩
      have hB2 := below_drewN hB1 m2
      generalize w1.drewN m2 = w2 at *
      go_wp2_with fail
      refine (H2.out _ hB2).mono ?_
      rintro e w3 ⟨rfl, m3, rfl⟩
      have hB3 := below_drewN hB2 m3
      generalize w2.drewN m3 = w3 at *
      go_wp2_with fail
      refine (H3.out _ hB3).mono ?_
      rintro e w4 ⟨rfl, hb4⟩
      have hB4 := hB3.trans (hb4.mono hB3.size)
      go_wp2_with fail
      refine (H4.out _ hB4).mono ?_
      rintro e w1 ⟨rfl, rfl⟩
      go_wp2_with fail
      refine (H5.out _ hB4).mono ?_
      rintro e w5 ⟨rfl, hb5⟩
      have hB5 := hB4.trans (hb5.mono hB4.size)
      go_wp2_with fail
      refine (H6.out _ hB5).mono ?_
      rintro e w6 ⟨rfl, m6, rfl⟩
      have hB6 := below_drewN hB5 m6
      generalize w5.drewN m6 = w6 at *
      go_wp2_with fail
      refine (H7.out _ hB6).mono ?_
      rintro e w7 ⟨rfl, hb7⟩
      have hB7 := hB6.trans (hb7.mono hB6.size)
      go_wp2_with fail
      refine (H8.out _ hB7).mono ?_
      rintro e w8 ⟨rfl, m8, rfl⟩
      have hB8 := below_drewN hB7 m8
      generalize w7.drewN m8 = w8 at *
      go_wp2_with fail
      refine (awake4_any _ (by first | exact hT.keep (by assumption) | exact hTb.keep (by assumption) | exact hTb | exact hT)).mono ?_
      rintro e w9 ⟨rfl, hb9⟩
      have hB9 := hB8.trans (hb9.mono hB8.size)
      go_wp2_with fail
      go_ret
      exact ⟨rfl, hB9⟩
  · have d1 : (validE k f == 0) = false := by rw [beq_eq_false_iff_ne]; exact hE
    clear hE hl H4
    generalize validE k f = E at *
    rcases hst with ⟨rfl, rfl⟩ | ⟨a, cap, rfl, h1, rfl⟩ | ⟨a, cap, rfl, h1, h2, rfl⟩
    all_goals
      go_enter Tryd.func8, Tryd.ntmps8
      go_wp2_with fail
      have hB0 := Below.refl w.heap.size w
      refine (H1.out _ hB0).mono ?_
      rintro e w1 ⟨rfl, hb1⟩
      have hB1 := hB0.trans (hb1.mono hB0.size)
      go_wp2_with fail
      refine (H2.out _ hB1).mono ?_
      rintro e w2 ⟨rfl, m2, rfl⟩
      have hB2 := below_drewN hB1 m2
      generalize w1.drewN m2 = w2 at *
      go_wp2_with fail
      refine (H2.out _ hB2).mono ?_
      rintro e w3 ⟨rfl, m3, rfl⟩
      have hB3 := below_drewN hB2 m3
      generalize w2.drewN m3 = w3 at *
      go_wp2_with fail
      refine (H5.out _ hB3).mono ?_
      rintro e w5 ⟨rfl, hb5⟩
      have hB5 := hB3.trans (hb5.mono hB3.size)
      go_wp2_with fail
      refine (H6.out _ hB5).mono ?_
      rintro e w6 ⟨rfl, m6, rfl⟩
      have hB6 := below_drewN hB5 m6
      generalize w5.drewN m6 = w6 at *
      go_wp2_with fail
      refine (H7.out _ hB6).mono ?_
      rintro e w7 ⟨rfl, hb7⟩
      have hB7 := hB6.trans (hb7.mono hB6.size)
      go_wp2_with fail
      refine (H8.out _ hB7).mono ?_
      rintro e w8 ⟨rfl, m8, rfl⟩
      have hB8 := below_drewN hB7 m8
      generalize w7.drewN m8 = w8 at *
      go_wp2_with fail
      refine (awake4_any _ (by first | exact hT.keep (by assumption) | exact hTb.keep (by assumption) | exact hTb | exact hT)).mono ?_
      rintro e w9 ⟨rfl, hb9⟩
      have hB9 := hB8.trans (hb9.mono hB8.size)
      go_wp2_with fail
      go_ret
      exact ⟨rfl, hB9⟩

set_option maxHeartbeats 1600000 in
theorem calWorking_made (v u : Value) (n k : Nat) (f : Nat → Int) (x0 m0 : Int) (w : World) (hT : CalTab w) (h : CutAt 300 w v n f u k) : Calls Tryd.prog 8 #[v, .int .i64 x0, .int .i64 m0, .bool false] w fun e w' => e = .returned (.bool true) ∧ Below w.heap.size w w' := by
  obtain ⟨hl0, hst⟩ := h
  have HH := Lib.hid (madeHolidays_any u k f w hl0)
  have HD := Lib.hid (madeDay_any x0)
  have HM := Lib.hid (madeWithin_any m0 60 (by omega) (by omega))
  generalize x0 % 36525 = x at *
  generalize m0 % 60 = m at *
  clear hl0
  rcases hst with ⟨rfl, rfl⟩ | ⟨a, cap, rfl, h1, rfl⟩ | ⟨a, cap, rfl, h1, h2, rfl⟩
  all_goals
    go_enter Tryd.func8, Tryd.ntmps8
    go_wp2_with fail
    refine (HH.out).mono ?_
    rintro e wb ⟨u2, n2, g2, rfl, hl, hBw⟩
    have hTb := hT.keep hBw
    clear HH
    go_wp2_with fail
    refine (HD.out _).mono ?_
    rintro e w1 ⟨rfl, rfl⟩
    go_wp2_with fail
    refine (HM.out _).mono ?_
    rintro e w1 ⟨rfl, rfl⟩
    clear HD HM
    have H1 := Lib.hid (fun w1 (hb : Below wb.heap.size wb w1) => calValid_any u2 n2 g2 w1 (listAt_below hl hb))
    have H2 := Lib.hid (fun w1 (hb : Below wb.heap.size wb w1) => refValid_any u2 n2 g2 w1 (listAt_below hl hb))
    have H4 := Lib.hid (fun w1 (hb : Below wb.heap.size wb w1) => refWorking_any u2 n2 g2 x w1 (listAt_below hl hb))
    have H5 := Lib.hid (fun w1 (hb : Below wb.heap.size wb w1) => calNext_any u2 n2 g2 x w1 (listAt_below hl hb))
    have H6 := Lib.hid (fun w1 (hb : Below wb.heap.size wb w1) => refNext_any u2 n2 g2 x w1 (listAt_below hl hb))
    have H7 := Lib.hid (fun w1 (hb : Below wb.heap.size wb w1) => calAdd_any u2 n2 g2 x m w1 (listAt_below hl hb))
    have H8 := Lib.hid (fun w1 (hb : Below wb.heap.size wb w1) => refAdd_any u2 n2 g2 x m w1 (listAt_below hl hb))
    generalize nwV n2 g2 x = A at *
    generalize nwE n2 g2 x = Ae at *
    generalize awV n2 g2 x m = C at *
    generalize awE n2 g2 x m = Ce at *
    by_cases hE : validE n2 g2 = 0
    · have H3 := Lib.hid (fun w1 (hb : Below wb.heap.size wb w1) => calWorking_any u2 n2 g2 x w1 (listAt_below hl hb) hE)
      rw [hE] at H1 H2
      clear hE hl
      generalize workB n2 g2 x = R at *
      go_wp2_with fail
      have hB0 := Below.refl wb.heap.size wb
      refine (H1.out _ hB0).mono ?_
      rintro e w1 ⟨rfl, hb1⟩
      have hB1 := hB0.trans (hb1.mono hB0.size)
      go_wp2_with fail
      refine (H2.out _ hB1).mono ?_
      rintro e w2 ⟨rfl, m2, rfl⟩
      have hB2 := below_drewN hB1 m2
      generalize w1.drewN m2 = w2 at *
      go_wp2_with fail
      refine (H2.out _ hB2).mono ?_
      rintro e w3 ⟨rfl, m3, rfl⟩
      have hB3 := below_drewN hB2 m3
      generalize w2.drewN m3 = w3 at *
      go_wp2_with fail
      refine (H3.out _ hB3).mono ?_
      rintro e w4 ⟨rfl, hb4⟩
      have hB4 := hB3.trans (hb4.mono hB3.size)
      go_wp2_with fail
      refine (H4.out _ hB4).mono ?_
      rintro e w1 ⟨rfl, rfl⟩
      go_wp2_with fail
      refine (H5.out _ hB4).mono ?_
      rintro e w5 ⟨rfl, hb5⟩
      have hB5 := hB4.trans (hb5.mono hB4.size)
      go_wp2_with fail
      refine (H6.out _ hB5).mono ?_
      rintro e w6 ⟨rfl, m6, rfl⟩
      have hB6 := below_drewN hB5 m6
      generalize w5.drewN m6 = w6 at *
      go_wp2_with fail
      refine (H7.out _ hB6).mono ?_
      rintro e w7 ⟨rfl, hb7⟩
      have hB7 := hB6.trans (hb7.mono hB6.size)
      go_wp2_with fail
      refine (H8.out _ hB7).mono ?_
      rintro e w8 ⟨rfl, m8, rfl⟩
      have hB8 := below_drewN hB7 m8
      generalize w7.drewN m8 = w8 at *
      go_wp2_with fail
      refine (awake4_any _ (by first | exact hT.keep (by assumption) | exact hTb.keep (by assumption) | exact hTb | exact hT)).mono ?_
      rintro e w9 ⟨rfl, hb9⟩
      have hB9 := hB8.trans (hb9.mono hB8.size)
      go_wp2_with fail
      go_ret
      exact ⟨rfl, hBw.trans (hB9.mono hBw.size)⟩
    · have d1 : (validE n2 g2 == 0) = false := by rw [beq_eq_false_iff_ne]; exact hE
      clear hE hl H4
      generalize validE n2 g2 = E at *
      go_wp2_with fail
      have hB0 := Below.refl wb.heap.size wb
      refine (H1.out _ hB0).mono ?_
      rintro e w1 ⟨rfl, hb1⟩
      have hB1 := hB0.trans (hb1.mono hB0.size)
      go_wp2_with fail
      refine (H2.out _ hB1).mono ?_
      rintro e w2 ⟨rfl, m2, rfl⟩
      have hB2 := below_drewN hB1 m2
      generalize w1.drewN m2 = w2 at *
      go_wp2_with fail
      refine (H2.out _ hB2).mono ?_
      rintro e w3 ⟨rfl, m3, rfl⟩
      have hB3 := below_drewN hB2 m3
      generalize w2.drewN m3 = w3 at *
      go_wp2_with fail
      refine (H5.out _ hB3).mono ?_
      rintro e w5 ⟨rfl, hb5⟩
      have hB5 := hB3.trans (hb5.mono hB3.size)
      go_wp2_with fail
      refine (H6.out _ hB5).mono ?_
      rintro e w6 ⟨rfl, m6, rfl⟩
      have hB6 := below_drewN hB5 m6
      generalize w5.drewN m6 = w6 at *
      go_wp2_with fail
      refine (H7.out _ hB6).mono ?_
      rintro e w7 ⟨rfl, hb7⟩
      have hB7 := hB6.trans (hb7.mono hB6.size)
      go_wp2_with fail
      refine (H8.out _ hB7).mono ?_
      rintro e w8 ⟨rfl, m8, rfl⟩
      have hB8 := below_drewN hB7 m8
      generalize w7.drewN m8 = w8 at *
      go_wp2_with fail
      refine (awake4_any _ (by first | exact hT.keep (by assumption) | exact hTb.keep (by assumption) | exact hTb | exact hT)).mono ?_
      rintro e w9 ⟨rfl, hb9⟩
      have hB9 := hB8.trans (hb9.mono hB8.size)
      go_wp2_with fail
      go_ret
      exact ⟨rfl, hBw.trans (hB9.mono hBw.size)⟩

theorem calendarWorking_walk {w : World} (hT : CalTab w) (v : Value) (n : Nat) (f : Nat → Int) (h : ListAt w .i64 v n f) (x m : Int) (raw : Bool) : Calls Tryd.prog 8 #[v, .int .i64 x, .int .i64 m, .bool raw] w fun e w' => e = .returned (.bool true) ∧ Below w.heap.size w w' := by
  obtain ⟨u, k, hc⟩ := cut_at 300 h
  cases raw with
  | true => exact calWorking_raw v u n k f x m w hT hc
  | false => exact calWorking_made v u n k f x m w hT hc
end Go.Proofs.YtnegiopbccllcaaDoor
