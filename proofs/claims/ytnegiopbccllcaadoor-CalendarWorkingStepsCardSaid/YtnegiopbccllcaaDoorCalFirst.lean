/- What the inner functions of the package calendar return: the first day and the length of a month, the month of a day, tests of days. Condition: the package's table holds what the program lays in it; the month is none past the last. -/
import Derived.Test.YtnegiopbccllcaaDoorCalTab
import Derived.Test.YtnegiopbccllcaaDoorCalMade
import Derived.Handy
import Derived.Deep.RegionHeld3
import Derived.Deep.QuietTactic
import Derived.BigQuiet
namespace Go.Proofs.YtnegiopbccllcaaDoor
open Go.RowKit

set_option maxRecDepth 100000 in
set_option maxHeartbeats 800000 in
theorem firstDay_any (m : Nat) (hm : m ≤ 1200) (w : World) (hT : CalTab w) : Calls Tryd.prog 35 #[.int .i64 m] w fun e w' => e = .returned (.int .i64 (msK m)) ∧ w = w' := by
  rw [ms_table m hm]
  have hc := hT.cell (m % 12) (by omega)
  have hl := db_le (m % 12) (by omega)
  have hv : Hid (fdN m = m / 12 * 365 + dbN (m % 12) + ((m / 12 + 3) / 4 + if m / 12 % 4 = 0 ∧ 1 < m % 12 then 1 else 0)) := Lib.hid rfl
  generalize fdN m = V at *
  generalize dbN (m % 12) = D at *
  have hq : ((m / 12 : Nat) : Int) = (m : Int) / 12 := by omega
  have hr : ((m % 12 : Nat) : Int) = (m : Int) % 12 := by omega
  have hy : m / 12 ≤ 100 := by omega
  have hr2 : m % 12 < 12 := by omega
  clear hT
  go_enter Tryd.func35, Tryd.ntmps35
  go_wp2_with fail
  all_goals
    go_ret
    have e := hv.out
    clear hv hc
    first
      | (rw [if_pos (by omega)] at e; exact ⟨congrArg Ending.returned (int_eq (by omega)), rfl⟩)
      | (rw [if_neg (by omega)] at e; exact ⟨congrArg Ending.returned (int_eq (by omega)), rfl⟩)

theorem lenK_of (m : Nat) : ((msK (m + 1) : Nat) : Int) - (msK m : Nat) = (lenK m : Nat) := by
  have e : msK (m + 1) = msK m + lenK m := rfl
  omega
set_option maxRecDepth 100000 in
set_option maxHeartbeats 800000 in
theorem length_any (m : Nat) (hm : m < 1200) (w : World) (hT : CalTab w) : Calls Tryd.prog 39 #[.int .i64 m] w fun e w' => e = .returned (.int .i64 (lenK m)) ∧ w = w' := by
  have H1 := Lib.hid (firstDay_any (m + 1) (by omega) w hT)
  have H2 := Lib.hid (firstDay_any m (by omega) w hT)
  have e := Lib.hid (lenK_of m)
  have hb : msK (m + 1) ≤ 36525 := by rw [← ms_end]; exact ms_mono (by omega)
  have hb2 : msK m ≤ 36525 := by rw [← ms_end]; exact ms_mono (by omega)
  rw [show ((m + 1 : Nat) : Int) = (m : Int) + 1 by omega] at H1
  generalize msK (m + 1) = a at *
  generalize msK m = b at *
  generalize lenK m = L at *
  clear hT
  go_enter Tryd.func39, Tryd.ntmps39
  go_wp2_with fail
  refine H1.out.mono ?_
  rintro e1 w1 ⟨rfl, rfl⟩
  go_wp2_with fail
  refine H2.out.mono ?_
  rintro e1 w1 ⟨rfl, rfl⟩
  go_wp2_with fail
  go_ret
  exact ⟨by rw [← e.out]; rfl, rfl⟩

/-- Are f 0 .. f (n - 1) all from lo to hi? -/
def cIn (lo hi : Int) (f : Nat → Int) : Nat → Bool
  | 0 => true
  | n + 1 => cIn lo hi f n && (decide (lo ≤ f n) && decide (f n ≤ hi))
theorem cIn_bad {lo hi : Int} {f : Nat → Int} {k : Nat} (h : f k < lo ∨ hi < f k) : ∀ n, k < n → cIn lo hi f n = false
  | 0, hk => absurd hk (by omega)
  | n + 1, hk => by
    show (cIn lo hi f n && (decide (lo ≤ f n) && decide (f n ≤ hi))) = false
    by_cases e : k = n
    · subst e
      rcases h with h | h
      · rw [decide_eq_false (show ¬ lo ≤ f k by omega)]; simp
      · rw [decide_eq_false (show ¬ f k ≤ hi by omega)]; simp
    · rw [cIn_bad h n (by omega)]; rfl

set_option maxHeartbeats 800000 in
theorem calWithin_some (lo hi : Int) (a : Addr) (n cap : Nat) (f : Nat → Int) (hn : n ≤ 9223372036854775807) (w : World) (hc : ∀ j, j < n → w.cell? (a.add j) = some (.int .i64 (f j))) :
    Calls Tryd.prog 38 #[.int .i64 lo, .int .i64 hi, .slice (some a) n cap] w fun e w' => e = .returned (.bool (cIn lo hi f n)) ∧ w = w' := by
  go_enter Tryd.func38, Tryd.ntmps38
  go_wp2
  go_loop [11] (fun i => ∃ k : Nat, k ≤ n ∧ i = .int .i64 k ∧ Hid (cIn lo hi f k = true)) (fun i => n - (intOf i).toNat)
  case atStart => exact ⟨0, Nat.zero_le _, rfl, Lib.hid rfl⟩
  case round =>
    obtain ⟨k, hk, rfl, hall⟩ := hrel
    by_cases hlt : k < n
    · have hcell := hc k hlt
      have hbad := Lib.hid (fun h => cIn_bad (lo := lo) (hi := hi) (f := f) (k := k) h n hlt)
      have hnext := Lib.hid (fun (h1 : lo ≤ f k) (h2 : f k ≤ hi) => show cIn lo hi f (k + 1) = true by
        show (cIn lo hi f k && (decide (lo ≤ f k) && decide (f k ≤ hi))) = true
        rw [hall.out, decide_eq_true h1, decide_eq_true h2]
        rfl)
      clear hall hc
      generalize f k = x at *
      by_cases h1 : x < lo
      · have c1 : decide (x < lo) = true := decide_eq_true h1
        go_wp2
        go_ret
        exact ⟨by rw [hbad.out (.inl h1)]; rfl, rfl⟩
      · by_cases h2 : hi < x
        · have c1 : decide (x < lo) = false := decide_eq_false h1
          have c2 : decide (hi < x) = true := decide_eq_true h2
          go_wp2
          go_ret
          exact ⟨by rw [hbad.out (.inr h2)]; rfl, rfl⟩
        · have hn2 := Lib.hid (hnext.out (by omega) (by omega))
          clear hbad hnext
          have c1 : decide (x < lo) = false := decide_eq_false h1
          have c2 : decide (hi < x) = false := decide_eq_false h2
          go_wp2
          go_round
          case rel => exact ⟨k + 1, by omega, by go_num, hn2⟩
          case measure => simp [intOf]; omega
    · have : k = n := by omega
      subst this
      go_wp2
      go_ret
      exact ⟨by rw [hall.out]; rfl, rfl⟩


theorem one_here {x : Int} {b : Nat} {w : World} (h : w.cell? ⟨b, 0, none⟩ = some (.int .i64 x)) : ∀ j, j < 1 → w.cell? ((⟨b, 0, none⟩ : Addr).add j) = some (.int .i64 x) := by
  intro j hj
  obtain rfl : j = 0 := by omega
  exact h
theorem calWithin_one (lo hi x : Int) (b : Nat) (w : World) (h : w.cell? ⟨b, 0, none⟩ = some (.int .i64 x)) :
    Calls Tryd.prog 38 #[.int .i64 lo, .int .i64 hi, .slice (some ⟨b, 0, none⟩) 1 1] w fun e w' => e = .returned (.bool (decide (lo ≤ x) && decide (x ≤ hi))) ∧ w = w' := by
  have h := calWithin_some lo hi ⟨b, 0, none⟩ 1 1 (fun _ => x) (by omega) _ (one_here h)
  rw [show cIn lo hi (fun _ => x) 1 = (decide (lo ≤ x) && decide (x ≤ hi)) by show (true && _) = _; simp] at h
  exact h
theorem calWithin_three (lo hi x y z : Int) (b : Nat) (w : World) (h0 : w.cell? ⟨b, 0, none⟩ = some (.int .i64 x)) (h1 : w.cell? ⟨b, 1, none⟩ = some (.int .i64 y)) (h2 : w.cell? ⟨b, 2, none⟩ = some (.int .i64 z)) :
    Calls Tryd.prog 38 #[.int .i64 lo, .int .i64 hi, .slice (some ⟨b, 0, none⟩) 3 3] w fun e w' => e = .returned (.bool ((decide (lo ≤ x) && decide (x ≤ hi)) && ((decide (lo ≤ y) && decide (y ≤ hi)) && (decide (lo ≤ z) && decide (z ≤ hi))))) ∧ w = w' := by
  have h := calWithin_some lo hi ⟨b, 0, none⟩ 3 3 (fun i => if i = 0 then x else if i = 1 then y else z) (by omega) w (fun j hj => by
    rcases (show j = 0 ∨ j = 1 ∨ j = 2 by omega) with rfl | rfl | rfl
    · exact h0
    · exact h1
    · exact h2)
  rw [show cIn lo hi (fun i => if i = 0 then x else if i = 1 then y else z) 3 = ((decide (lo ≤ x) && decide (x ≤ hi)) && ((decide (lo ≤ y) && decide (y ≤ hi)) && (decide (lo ≤ z) && decide (z ≤ hi)))) by
    show (((true && _) && _) && _) = _
    simp [Bool.and_assoc]] at h
  exact h

set_option maxHeartbeats 400000 in
theorem isDay_any (n : Int) (w : World) : Calls Tryd.prog 33 #[.int .i64 n] w fun e w' => e = .returned (.bool (dayB n)) ∧ Below w.heap.size w w' := by
  have H := Lib.hid (fun w1 h => calWithin_one 0 36524 n w.heap.size w1 h)
  rw [show (decide (0 ≤ n) && decide (n ≤ 36524)) = dayB n from rfl] at H
  generalize dayB n = D at *
  go_enter Tryd.func33, Tryd.ntmps33
  go_wp2_with fail
  refine (H.out _ (by simp [go_sem])).mono ?_
  rintro e w1 ⟨rfl, rfl⟩
  go_wp2_with fail
  go_ret
  exact ⟨rfl, (Below.refl _ _).alloc (Nat.le_refl _) _⟩

/-- Does day d lie before the end of month h? -/
theorem month_test (d h : Nat) : d < msK (h + 1) ↔ monthOf d ≤ h := by
  obtain ⟨h1, h2⟩ := month_spec d
  constructor
  · intro h3
    by_cases e : monthOf d ≤ h
    · exact e
    · have := ms_mono (show h + 1 ≤ monthOf d by omega)
      omega
  · intro h3
    have := ms_mono (show monthOf d + 1 ≤ h + 1 by omega)
    omega

set_option maxRecDepth 100000 in
set_option maxHeartbeats 800000 in
theorem monthOf1_any (d h C : Nat) (hh : h < 1200) (w : World) (hT : CalTab w) (hc : w.cell? ⟨C, 0, none⟩ = some (.int .i64 d)) :
    Calls Tryd.prog 46 #[.int .i64 h, .pointer (some ⟨C, 0, none⟩)] w fun e w' => e = .returned (.bool (decide (monthOf d ≤ h))) ∧ ∃ m, w' = w.drewN m := by
  rw [show decide (monthOf d ≤ h) = decide (d < msK (h + 1)) by simp [month_test]]
  have H1 := Lib.hid (fun m => (firstDay_any (h + 1) (by omega) (w.drewN m) (hT.drewN m)).mono fun _ _ h => (⟨h.1, h.2.symm⟩ : _ ∧ _))
  rw [show ((h + 1 : Nat) : Int) = (h : Int) + 1 by omega] at H1
  generalize msK (h + 1) = a at *
  clear hT
  go_enter Tryd.func46, Tryd.ntmps46
  go_wp2_with fail
  go_quiet ((go_at_call 35; refine Calls.quiet_of_same (H1.out _)))
  go_wp2_with fail
  go_ret
  exact ⟨rfl, _, rfl⟩

/-- A search among the months: the variable's cell, and the table. -/
structure SearchAt (w : World) (C : Nat) (d : Nat) : Prop where
  tab : CalTab w
  box : w.cell? ⟨C, 0, none⟩ = some (.int .i64 d)
theorem SearchAt.drewN {w : World} {C d : Nat} (h : SearchAt w C d) (n : Nat) : SearchAt (w.drewN n) C d := ⟨h.tab.drewN n, h.box⟩

set_option maxRecDepth 100000 in
set_option maxHeartbeats 800000 in
theorem search_any (d C : Nat) (hd : d ≤ 36524) (w : World) (hS : SearchAt w C d) :
    Calls Tryd.prog 45 #[.int .i64 1200, .func (.func 46) #[] #[.pointer (some ⟨C, 0, none⟩)]] w fun e w' => e = .returned (.int .i64 (monthOf d)) ∧ ∃ m, w' = w.drewN m := by
  have hmo := month_lt hd
  have H := Lib.hid (fun (m h : Nat) (hh : h < 1200) => monthOf1_any d h C hh (w.drewN m) (hS.drewN m).tab (hS.drewN m).box)
  clear hS
  generalize monthOf d = M at *
  go_enter Tryd.func45, Tryd.ntmps45
  go_wp2_with fail
  go_loopw [5, 6] (fun vi vj wx => ∃ i j : Nat, vi = .int .i64 i ∧ vj = .int .i64 j ∧ i ≤ M ∧ M ≤ j ∧ j ≤ 1200 ∧ ∃ m, wx = w.drewN m) (fun vi vj _ => (intOf vj).toNat - (intOf vi).toNat)
  case atStart => exact ⟨0, 1200, by go_num, by go_num, by omega, by omega, by omega, 0, rfl⟩
  case round =>
    obtain ⟨i, j, rfl, rfl, hi, hj, hj2, m, rfl⟩ := hrel
    by_cases hlt : i < j
    · obtain ⟨c, hc⟩ : ∃ c, c = (i + j) / 2 := ⟨_, rfl⟩
      have hc1 : i ≤ c := by omega
      have hc2 : c < j := by omega
      have hz : ((i : Int) + (j : Int)) / 2 = (c : Int) := by omega
      clear hc
      have HC := Lib.hid (H.out m c (by omega))
      clear H
      by_cases ht : M ≤ c
      · rw [decide_eq_true ht] at HC
        go_wp2_with fail
        refine HC.out.mono ?_
        rintro e w1 ⟨rfl, m2, rfl⟩
        clear HC
        go_wp2_with fail
        go_roundw
        case rel => exact ⟨i, c, rfl, by go_num, hi, ht, by omega, _, rfl⟩
        case measure => simp [intOf]; omega
      · rw [decide_eq_false ht] at HC
        go_wp2_with fail
        refine HC.out.mono ?_
        rintro e w1 ⟨rfl, m2, rfl⟩
        clear HC
        go_wp2_with fail
        go_roundw
        case rel => exact ⟨c + 1, j, by go_num, rfl, by omega, hj, hj2, _, rfl⟩
        case measure => simp [intOf]; omega
    · obtain rfl : i = M := by omega
      obtain rfl : j = i := by omega
      clear H
      go_wp2_with fail
      go_ret
      exact ⟨rfl, _, rfl⟩

set_option maxHeartbeats 400000 in
theorem monthOf_any (d : Nat) (hd : d ≤ 36524) (w : World) (hT : CalTab w) : Calls Tryd.prog 34 #[.int .i64 d] w fun e w' => e = .returned (.int .i64 (monthOf d)) ∧ Below w.heap.size w w' := by
  have H := Lib.hid (fun (w1 : World) (h : SearchAt w1 w.heap.size d) => search_any d w.heap.size hd w1 h)
  have hm := month_lt hd
  generalize monthOf d = M at *
  go_enter Tryd.func34, Tryd.ntmps34
  go_wp2_with fail
  refine (H.out _ ⟨hT.alloc _, by simp [go_sem]⟩).mono ?_
  rintro e w1 ⟨rfl, m, rfl⟩
  clear H hT
  go_wp2_with fail
  go_ret
  exact ⟨rfl, below_drewN ((Below.refl _ _).alloc (Nat.le_refl _) _) _⟩
end Go.Proofs.YtnegiopbccllcaaDoor
