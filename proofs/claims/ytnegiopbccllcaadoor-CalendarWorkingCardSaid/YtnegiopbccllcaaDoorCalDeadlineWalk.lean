/- The law CalendarDeadline, walked: it returns true at every input. No condition. -/
import Derived.Test.YtnegiopbccllcaaDoorCalHol
import Derived.Test.YtnegiopbccllcaaDoorCalAwake
import Derived.Test.YtnegiopbccllcaaDoorCalMonotoneWalk
namespace Go.Proofs.YtnegiopbccllcaaDoor
open Go.RowKit

/-- The list as a law's function takes it: no longer than N. -/
def CutAt (N : Nat) (w : World) (v : Value) (n : Nat) (f : Nat → Int) (u : Value) (m : Nat) : Prop :=
  ListAt w .i64 u m f ∧ ((v = .slice none 0 0 ∧ u = v) ∨ (∃ (a : Addr) (cap : Nat), v = .slice (some a) n cap ∧ n ≤ N ∧ u = v) ∨ (∃ (a : Addr) (cap : Nat), v = .slice (some a) n cap ∧ N < n ∧ n ≤ cap ∧ u = .slice (some a) N cap))
theorem cut_at (N : Nat) {w : World} {v : Value} {n : Nat} {f : Nat → Int} (h : ListAt w .i64 v n f) : ∃ u m, CutAt N w v n f u m := by
  rcases h with ⟨rfl, rfl⟩ | ⟨a, cap, rfl, h1, h2, h3⟩
  · exact ⟨_, 0, Or.inl ⟨rfl, rfl⟩, Or.inl ⟨rfl, rfl⟩⟩
  · by_cases hn : n ≤ N
    · exact ⟨_, n, Or.inr ⟨a, cap, rfl, h1, h2, h3⟩, Or.inr (Or.inl ⟨a, cap, rfl, hn, rfl⟩)⟩
    · exact ⟨.slice (some a) N cap, N, Or.inr ⟨a, cap, rfl, by omega, h2, fun i hi => h3 i (by omega)⟩, Or.inr (Or.inr ⟨a, cap, rfl, by omega, h1, rfl⟩)⟩

theorem am_ge (d k : Nat) (h : monthOf d ≤ k) : d ≤ amDay d k := by
  have h1 := dom_bounds d
  have h2 := lenK_bounds k
  unfold amDay
  by_cases e : monthOf d = k
  · subst e; omega
  · have := ms_next (show monthOf d < k by omega)
    omega
theorem out_zero {r : Option Nat} (h : outE r = 0) : ∃ k, r = some k := by
  cases r with
  | none => cases h
  | some k => exact ⟨k, rfl⟩
theorem nw_ok {n : Nat} {g : Nat → Int} {x : Int} (h : nwE n g x = 0) : x ≤ nwV n g x ∧ workB n g (nwV n g x) = true := by
  unfold nwE at h
  unfold nwV
  by_cases hv : validE n g = 0
  · rw [if_pos hv] at h ⊢
    by_cases hd : dayB x = true
    · rw [if_pos hd] at h ⊢
      obtain ⟨k, hk⟩ := out_zero h
      rw [hk]
      have := next_spec _ _ _ _ hk
      have hx := (dayB_iff x).1 hd
      exact ⟨by show x ≤ (k : Int); omega, this.2.2⟩
    · rw [if_neg hd] at h
      cases h
  · rw [if_neg hv] at h
    exact absurd h hv
theorem aw_ok {n : Nat} {g : Nat → Int} {x c : Int} (h : awE n g x c = 0) : x ≤ awV n g x c := by
  unfold awE at h
  unfold awV
  by_cases hv : validE n g = 0
  · rw [if_pos hv] at h ⊢
    by_cases hi : awIn x c = true
    · rw [if_pos hi] at h ⊢
      obtain ⟨k, hk⟩ := out_zero h
      rw [hk]
      have := adv_ge _ _ _ _ _ hk
      show x ≤ (k : Int)
      omega
    · rw [if_neg hi] at h
      cases h
  · rw [if_neg hv] at h
    exact absurd h hv
theorem dl_ok {n : Nat} {g : Nat → Int} {x m d c : Int} (h : dlE n g x m d c = 0) : validE n g = 0 ∧ x ≤ dlV n g x m d c ∧ workB n g (dlV n g x m d c) = true := by
  unfold dlE at h
  unfold dlV
  by_cases hv : validE n g = 0
  · rw [if_pos hv] at h ⊢
    by_cases hi : dlIn x m d c = true
    · rw [if_pos hi] at h ⊢
      by_cases hm : dlMid x m d = true
      · rw [if_pos hm] at h ⊢
        by_cases ha : awE n g (amV x m + d) c = 0
        · rw [if_pos ha] at h ⊢
          obtain ⟨h1, h2⟩ := nw_ok h
          have h3 := aw_ok ha
          refine ⟨hv, ?_, h2⟩
          unfold dlIn at hi
          simp only [Bool.and_eq_true] at hi
          obtain ⟨i1, i2, i3, i4⟩ := hi
          unfold wiB at i2 i3
          simp only [Bool.and_eq_true, decide_eq_true_eq] at i2 i3
          unfold dlMid at hm
          simp only [Bool.and_eq_true, beq_iff_eq] at hm
          obtain ⟨b1, b2, b3, b4, b5, b6, b7⟩ := am_ok hm.1
          have := am_ge x.toNat (amK x m).toNat (by unfold amK at *; omega)
          omega
        · rw [if_neg ha] at h
          exact absurd h ha
      · rw [if_neg hm] at h
        cases h
    · rw [if_neg hi] at h
      cases h
  · rw [if_neg hv] at h
    exact absurd h hv

set_option maxHeartbeats 1600000 in
theorem calDeadline_raw (v u : Value) (n k : Nat) (f : Nat → Int) (x m d c : Int) (w : World) (hT : CalTab w) (h : CutAt 100 w v n f u k) : Calls Tryd.prog 10 #[v, .int .i64 x, .int .i64 m, .int .i64 d, .int .i64 c, .bool true] w fun e w' => e = .returned (.bool true) ∧ Below w.heap.size w w' := by
  obtain ⟨hl, hst⟩ := h
  have H1 := Lib.hid (fun w1 (hb : Below w.heap.size w w1) => calDeadline_any u k f x m d c w1 (listAt_below hl hb) (hT.keep hb))
  have H2 := Lib.hid (fun w1 (hb : Below w.heap.size w w1) => refDeadline_any u k f x m d c w1 (listAt_below hl hb))
  by_cases hE : dlE k f x m d c = 0
  · obtain ⟨e1, e2, e3⟩ := dl_ok hE
    have H3 := Lib.hid (fun w1 (hb : Below w.heap.size w w1) => calWorking_any u k f (dlV k f x m d c) w1 (listAt_below hl hb) e1)
    rw [e3] at H3
    rw [hE] at H1 H2
    clear hE e1 e3 hl
    generalize dlV k f x m d c = V at *
    have d1 : decide (x ≤ V) = true := decide_eq_true e2
    rcases hst with ⟨rfl, rfl⟩ | ⟨a, cap, rfl, h1, rfl⟩ | ⟨a, cap, rfl, h1, h2, rfl⟩
    all_goals
      go_enter Tryd.func10, Tryd.ntmps10
      go_wp2_with fail
      have q0 : (w.alloc (.cells #[.int .i64 m, .int .i64 d, .int .i64 c] 47)).cell? ⟨w.heap.size, 0, none⟩ = some (.int .i64 m) := by simp [go_sem]
      have q1 : (w.alloc (.cells #[.int .i64 m, .int .i64 d, .int .i64 c] 47)).cell? ⟨w.heap.size, 1, none⟩ = some (.int .i64 d) := by simp [go_sem]
      have q2 : (w.alloc (.cells #[.int .i64 m, .int .i64 d, .int .i64 c] 47)).cell? ⟨w.heap.size, 2, none⟩ = some (.int .i64 c) := by simp [go_sem]
      have hBa : Below w.heap.size w (w.alloc (.cells #[.int .i64 m, .int .i64 d, .int .i64 c] 47)) := (Below.refl _ _).alloc (Nat.le_refl _) _
      have hs : w.heap.size < (w.alloc (.cells #[.int .i64 m, .int .i64 d, .int .i64 c] 47)).heap.size := World.block_lt_of_cell? _ _ q0
      generalize w.alloc (.cells #[.int .i64 m, .int .i64 d, .int .i64 c] 47) = W at *
      refine (H1.out W hBa).mono ?_
      rintro e w1 ⟨rfl, hb1⟩
      have hB1 := hBa.trans (hb1.mono hBa.size)
      have r0 := (hb1.cell hs).trans q0
      have r1 := (hb1.cell hs).trans q1
      have r2 := (hb1.cell hs).trans q2
      clear q0 q1 q2 hBa hs hb1 H1
      go_wp2_with fail
      refine (H2.out w1 hB1).mono ?_
      rintro e w2 ⟨rfl, hb2⟩
      have hB2 := hB1.trans (hb2.mono hB1.size)
      clear r0 r1 r2 hB1 hb2 H2
      go_wp2_with fail
      refine (H3.out w2 hB2).mono ?_
      rintro e w3 ⟨rfl, hb3⟩
      have hB3 := hB2.trans (hb3.mono hB2.size)
      clear H3
      go_wp2_with fail
      refine (awake4_any _ (by first | exact hT.keep (by assumption) | exact hTb.keep (by assumption) | exact hTb | exact hT)).mono ?_
      rintro e w6 ⟨rfl, hb6⟩
      have hB6 := hB3.trans (hb6.mono hB3.size)
      go_wp2_with fail
      go_ret
      exact ⟨rfl, hB6⟩
  · have d1 : (dlE k f x m d c != 0) = true := by rw [bne_iff_ne]; exact hE
    clear hE hl
    generalize dlV k f x m d c = V at *
    generalize dlE k f x m d c = E at *
    rcases hst with ⟨rfl, rfl⟩ | ⟨a, cap, rfl, h1, rfl⟩ | ⟨a, cap, rfl, h1, h2, rfl⟩
    all_goals
      go_enter Tryd.func10, Tryd.ntmps10
      go_wp2_with fail
      have q0 : (w.alloc (.cells #[.int .i64 m, .int .i64 d, .int .i64 c] 47)).cell? ⟨w.heap.size, 0, none⟩ = some (.int .i64 m) := by simp [go_sem]
      have q1 : (w.alloc (.cells #[.int .i64 m, .int .i64 d, .int .i64 c] 47)).cell? ⟨w.heap.size, 1, none⟩ = some (.int .i64 d) := by simp [go_sem]
      have q2 : (w.alloc (.cells #[.int .i64 m, .int .i64 d, .int .i64 c] 47)).cell? ⟨w.heap.size, 2, none⟩ = some (.int .i64 c) := by simp [go_sem]
      have hBa : Below w.heap.size w (w.alloc (.cells #[.int .i64 m, .int .i64 d, .int .i64 c] 47)) := (Below.refl _ _).alloc (Nat.le_refl _) _
      have hs : w.heap.size < (w.alloc (.cells #[.int .i64 m, .int .i64 d, .int .i64 c] 47)).heap.size := World.block_lt_of_cell? _ _ q0
      generalize w.alloc (.cells #[.int .i64 m, .int .i64 d, .int .i64 c] 47) = W at *
      refine (H1.out W hBa).mono ?_
      rintro e w1 ⟨rfl, hb1⟩
      have hB1 := hBa.trans (hb1.mono hBa.size)
      have r0 := (hb1.cell hs).trans q0
      have r1 := (hb1.cell hs).trans q1
      have r2 := (hb1.cell hs).trans q2
      clear q0 q1 q2 hBa hs hb1 H1
      go_wp2_with fail
      refine (H2.out w1 hB1).mono ?_
      rintro e w2 ⟨rfl, hb2⟩
      have hB2 := hB1.trans (hb2.mono hB1.size)
      clear r0 r1 r2 hB1 hb2 H2
      go_wp2_with fail
      refine (awake4_any _ (by first | exact hT.keep (by assumption) | exact hTb.keep (by assumption) | exact hTb | exact hT)).mono ?_
      rintro e w6 ⟨rfl, hb6⟩
      have hB6 := hB2.trans (hb6.mono hB2.size)
      go_wp2_with fail
      go_ret
      exact ⟨rfl, hB6⟩

set_option maxHeartbeats 1600000 in
theorem calDeadline_made (v u : Value) (n k : Nat) (f : Nat → Int) (x0 m0 d0 c0 : Int) (w : World) (hT : CalTab w) (h : CutAt 100 w v n f u k) : Calls Tryd.prog 10 #[v, .int .i64 x0, .int .i64 m0, .int .i64 d0, .int .i64 c0, .bool false] w fun e w' => e = .returned (.bool true) ∧ Below w.heap.size w w' := by
  obtain ⟨hl0, hst⟩ := h
  have HH := Lib.hid (madeHolidays_any u k f w hl0)
  have HD := Lib.hid (madeDay_any x0)
  have HM := Lib.hid (madeWithin_any m0 30 (by omega) (by omega))
  have HY := Lib.hid (madeWithin_any d0 90 (by omega) (by omega))
  have HC := Lib.hid (madeWithin_any c0 30 (by omega) (by omega))
  generalize x0 % 36525 = x at *
  generalize m0 % 30 = m at *
  generalize d0 % 90 = d at *
  generalize c0 % 30 = c at *
  clear hl0
  rcases hst with ⟨rfl, rfl⟩ | ⟨a, cap, rfl, h1, rfl⟩ | ⟨a, cap, rfl, h1, h2, rfl⟩
  all_goals
    go_enter Tryd.func10, Tryd.ntmps10
    go_wp2_with fail
    refine (HH.out).mono ?_
    rintro e wb ⟨u2, n2, g2, rfl, hl, hBw⟩
    have hTb := hT.keep hBw
    clear HH
    go_wp2_with fail
    refine (HD.out _).mono ?_
    rintro e w1 ⟨rfl, rfl⟩
    go_wp2_with fail
    refine (HM.out _).mono ?_
    rintro e w1 ⟨rfl, rfl⟩
    go_wp2_with fail
    refine (HY.out _).mono ?_
    rintro e w1 ⟨rfl, rfl⟩
    go_wp2_with fail
    refine (HC.out _).mono ?_
    rintro e w1 ⟨rfl, rfl⟩
    clear HD HM HY HC
    have H1 := Lib.hid (fun w1 (hb : Below wb.heap.size wb w1) => calDeadline_any u2 n2 g2 x m d c w1 (listAt_below hl hb) (hTb.keep hb))
    have H2 := Lib.hid (fun w1 (hb : Below wb.heap.size wb w1) => refDeadline_any u2 n2 g2 x m d c w1 (listAt_below hl hb))
    by_cases hE : dlE n2 g2 x m d c = 0
    · obtain ⟨e1, e2, e3⟩ := dl_ok hE
      have H3 := Lib.hid (fun w1 (hb : Below wb.heap.size wb w1) => calWorking_any u2 n2 g2 (dlV n2 g2 x m d c) w1 (listAt_below hl hb) e1)
      rw [e3] at H3
      rw [hE] at H1 H2
      clear hE e1 e3 hl
      generalize dlV n2 g2 x m d c = V at *
      have d1 : decide (x ≤ V) = true := decide_eq_true e2
      go_wp2_with fail
      have q0 : (wb.alloc (.cells #[.int .i64 m, .int .i64 d, .int .i64 c] 47)).cell? ⟨wb.heap.size, 0, none⟩ = some (.int .i64 m) := by simp [go_sem]
      have q1 : (wb.alloc (.cells #[.int .i64 m, .int .i64 d, .int .i64 c] 47)).cell? ⟨wb.heap.size, 1, none⟩ = some (.int .i64 d) := by simp [go_sem]
      have q2 : (wb.alloc (.cells #[.int .i64 m, .int .i64 d, .int .i64 c] 47)).cell? ⟨wb.heap.size, 2, none⟩ = some (.int .i64 c) := by simp [go_sem]
      have hBa : Below wb.heap.size wb (wb.alloc (.cells #[.int .i64 m, .int .i64 d, .int .i64 c] 47)) := (Below.refl _ _).alloc (Nat.le_refl _) _
      have hs : wb.heap.size < (wb.alloc (.cells #[.int .i64 m, .int .i64 d, .int .i64 c] 47)).heap.size := World.block_lt_of_cell? _ _ q0
      generalize wb.alloc (.cells #[.int .i64 m, .int .i64 d, .int .i64 c] 47) = W at *
      refine (H1.out W hBa).mono ?_
      rintro e w1 ⟨rfl, hb1⟩
      have hB1 := hBa.trans (hb1.mono hBa.size)
      have r0 := (hb1.cell hs).trans q0
      have r1 := (hb1.cell hs).trans q1
      have r2 := (hb1.cell hs).trans q2
      clear q0 q1 q2 hBa hs hb1 H1
      go_wp2_with fail
      refine (H2.out w1 hB1).mono ?_
      rintro e w2 ⟨rfl, hb2⟩
      have hB2 := hB1.trans (hb2.mono hB1.size)
      clear r0 r1 r2 hB1 hb2 H2
      go_wp2_with fail
      refine (H3.out w2 hB2).mono ?_
      rintro e w3 ⟨rfl, hb3⟩
      have hB3 := hB2.trans (hb3.mono hB2.size)
      clear H3
      go_wp2_with fail
      refine (awake4_any _ (by first | exact hT.keep (by assumption) | exact hTb.keep (by assumption) | exact hTb | exact hT)).mono ?_
      rintro e w6 ⟨rfl, hb6⟩
      have hB6 := hB3.trans (hb6.mono hB3.size)
      go_wp2_with fail
      go_ret
      exact ⟨rfl, hBw.trans (hB6.mono hBw.size)⟩
    · have d1 : (dlE n2 g2 x m d c != 0) = true := by rw [bne_iff_ne]; exact hE
      clear hE hl
      generalize dlV n2 g2 x m d c = V at *
      generalize dlE n2 g2 x m d c = E at *
      go_wp2_with fail
      have q0 : (wb.alloc (.cells #[.int .i64 m, .int .i64 d, .int .i64 c] 47)).cell? ⟨wb.heap.size, 0, none⟩ = some (.int .i64 m) := by simp [go_sem]
      have q1 : (wb.alloc (.cells #[.int .i64 m, .int .i64 d, .int .i64 c] 47)).cell? ⟨wb.heap.size, 1, none⟩ = some (.int .i64 d) := by simp [go_sem]
      have q2 : (wb.alloc (.cells #[.int .i64 m, .int .i64 d, .int .i64 c] 47)).cell? ⟨wb.heap.size, 2, none⟩ = some (.int .i64 c) := by simp [go_sem]
      have hBa : Below wb.heap.size wb (wb.alloc (.cells #[.int .i64 m, .int .i64 d, .int .i64 c] 47)) := (Below.refl _ _).alloc (Nat.le_refl _) _
      have hs : wb.heap.size < (wb.alloc (.cells #[.int .i64 m, .int .i64 d, .int .i64 c] 47)).heap.size := World.block_lt_of_cell? _ _ q0
      generalize wb.alloc (.cells #[.int .i64 m, .int .i64 d, .int .i64 c] 47) = W at *
      refine (H1.out W hBa).mono ?_
      rintro e w1 ⟨rfl, hb1⟩
      have hB1 := hBa.trans (hb1.mono hBa.size)
      have r0 := (hb1.cell hs).trans q0
      have r1 := (hb1.cell hs).trans q1
      have r2 := (hb1.cell hs).trans q2
      clear q0 q1 q2 hBa hs hb1 H1
      go_wp2_with fail
      refine (H2.out w1 hB1).mono ?_
      rintro e w2 ⟨rfl, hb2⟩
      have hB2 := hB1.trans (hb2.mono hB1.size)
      clear r0 r1 r2 hB1 hb2 H2
      go_wp2_with fail
      refine (awake4_any _ (by first | exact hT.keep (by assumption) | exact hTb.keep (by assumption) | exact hTb | exact hT)).mono ?_
      rintro e w6 ⟨rfl, hb6⟩
      have hB6 := hB2.trans (hb6.mono hB2.size)
      go_wp2_with fail
      go_ret
      exact ⟨rfl, hBw.trans (hB6.mono hBw.size)⟩

theorem calendarDeadline_walk {w : World} (hT : CalTab w) (v : Value) (n : Nat) (f : Nat → Int) (h : ListAt w .i64 v n f) (x m d c : Int) (raw : Bool) : Calls Tryd.prog 10 #[v, .int .i64 x, .int .i64 m, .int .i64 d, .int .i64 c, .bool raw] w fun e w' => e = .returned (.bool true) ∧ Below w.heap.size w w' := by
  obtain ⟨u, k, hc⟩ := cut_at 100 h
  cases raw with
  | true => exact calDeadline_raw v u n k f x m d c w hT hc
  | false => exact calDeadline_made v u n k f x m d c w hT hc
end Go.Proofs.YtnegiopbccllcaaDoor
