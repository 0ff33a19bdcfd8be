/- Plain facts on the Gregorian calendar from 2000 to 2099: months, days of the month, months added, days counted. No program in this text. No condition. -/
namespace Go.Proofs.YtnegiopbccllcaaDoor
/-- How many days month m of year y has. -/
def lenM (y m : Nat) : Nat := if m = 2 then (if y % 4 = 0 ∧ (y % 100 ≠ 0 ∨ y % 400 = 0) then 29 else 28) else if m = 4 ∨ m = 6 ∨ m = 9 ∨ m = 11 then 30 else 31
/-- The length of month k, counted from January 2000 on; the first day of month k. -/
def lenK (k : Nat) : Nat := lenM (2000 + k / 12) (k % 12 + 1)
def msK : Nat → Nat
  | 0 => 0
  | k + 1 => msK k + lenK k
theorem lenM_bounds (y m : Nat) : 28 ≤ lenM y m ∧ lenM y m ≤ 31 := by
  unfold lenM
  split
  · split <;> omega
  · split <;> omega
theorem lenK_bounds (k : Nat) : 28 ≤ lenK k ∧ lenK k ≤ 31 := lenM_bounds _ _
theorem ms_mono : ∀ {i j : Nat}, i ≤ j → msK i ≤ msK j
  | i, 0, h => by
    obtain rfl : i = 0 := by omega
    exact Nat.le_refl _
  | i, j + 1, h => by
    show msK i ≤ msK j + lenK j
    by_cases e : i = j + 1
    · subst e; exact Nat.le_refl _
    · have := ms_mono (show i ≤ j by omega); omega
theorem ms_next {i j : Nat} (h : i < j) : msK i + lenK i ≤ msK j := ms_mono (show i + 1 ≤ j by omega)
theorem ms_end : msK 1200 = 36525 := by decide +kernel
/-- The month of a day, and the day of the month. -/
def monthOf : Nat → Nat
  | 0 => 0
  | d + 1 => if d + 1 < msK (monthOf d + 1) then monthOf d else monthOf d + 1
theorem month_spec : ∀ d, msK (monthOf d) ≤ d ∧ d < msK (monthOf d + 1)
  | 0 => ⟨Nat.le_refl _, by decide⟩
  | d + 1 => by
    obtain ⟨h1, h2⟩ := month_spec d
    show msK (if d + 1 < msK (monthOf d + 1) then monthOf d else monthOf d + 1) ≤ d + 1 ∧ d + 1 < msK ((if d + 1 < msK (monthOf d + 1) then monthOf d else monthOf d + 1) + 1)
    by_cases h : d + 1 < msK (monthOf d + 1)
    · rw [if_pos h]
      exact ⟨by omega, h⟩
    · rw [if_neg h]
      have e : msK (monthOf d + 1 + 1) = msK (monthOf d + 1) + lenK (monthOf d + 1) := rfl
      have := lenK_bounds (monthOf d + 1)
      exact ⟨by omega, by omega⟩
theorem month_unique {d k : Nat} (h1 : msK k ≤ d) (h2 : d < msK (k + 1)) : monthOf d = k := by
  obtain ⟨h3, h4⟩ := month_spec d
  by_cases e : monthOf d = k
  · exact e
  · exfalso
    by_cases h : monthOf d < k
    · have := ms_mono (show monthOf d + 1 ≤ k by omega); omega
    · have := ms_mono (show k + 1 ≤ monthOf d by omega); omega
def domOf (d : Nat) : Nat := d - msK (monthOf d) + 1
theorem dom_bounds (d : Nat) : 1 ≤ domOf d ∧ domOf d ≤ lenK (monthOf d) ∧ msK (monthOf d) + domOf d - 1 = d := by
  obtain ⟨h1, h2⟩ := month_spec d
  have e : msK (monthOf d + 1) = msK (monthOf d) + lenK (monthOf d) := rfl
  unfold domOf
  omega
theorem month_of_date {k m : Nat} (h1 : 1 ≤ m) (h2 : m ≤ lenK k) : monthOf (msK k + m - 1) = k ∧ domOf (msK k + m - 1) = m := by
  have e : monthOf (msK k + m - 1) = k := month_unique (by omega) (by show _ < msK k + lenK k; omega)
  refine ⟨e, ?_⟩
  unfold domOf
  rw [e]
  omega
theorem month_lt {d : Nat} (h : d ≤ 36524) : monthOf d < 1200 := by
  obtain ⟨h1, _⟩ := month_spec d
  by_cases e : monthOf d < 1200
  · exact e
  · have := ms_mono (show 1200 ≤ monthOf d by omega)
    rw [ms_end] at this
    omega
theorem date_le {k m : Nat} (hk : k < 1200) (h2 : m ≤ lenK k) : msK k + m ≤ 36525 := by
  have := ms_next hk
  rw [ms_end] at this
  omega
/-- A year more. -/
theorem ms_year (y : Nat) : msK (12 * (y + 1)) = msK (12 * y) + 337 + lenM (2000 + y) 2 := by
  have e : ∀ j, j < 12 → lenK (12 * y + j) = lenM (2000 + y) (j + 1) := fun j hj => by
    unfold lenK
    rw [show (12 * y + j) / 12 = y by omega, show (12 * y + j) % 12 = j by omega]
  have s : ∀ k, msK (k + 12) = msK k + lenK k + lenK (k + 1) + lenK (k + 2) + lenK (k + 3) + lenK (k + 4) + lenK (k + 5) + lenK (k + 6) + lenK (k + 7) + lenK (k + 8) + lenK (k + 9) + lenK (k + 10) + lenK (k + 11) := fun k => rfl
  rw [show 12 * (y + 1) = 12 * y + 12 by omega, s, e 1 (by omega), e 2 (by omega), e 3 (by omega), e 4 (by omega), e 5 (by omega), e 6 (by omega), e 7 (by omega), e 8 (by omega), e 9 (by omega), e 10 (by omega), e 11 (by omega)]
  have e0 := e 0 (by omega)
  rw [Nat.add_zero] at e0
  rw [e0]
  simp [lenM]
  omega
/-- A month more, within a year. -/
theorem ms_month (y m : Nat) (h1 : 1 ≤ m) (h2 : m ≤ 12) : msK (12 * y + m) = msK (12 * y + (m - 1)) + lenM (2000 + y) m := by
  have e : 12 * y + m = 12 * y + (m - 1) + 1 := by omega
  rw [e]
  show msK _ + lenK _ = _
  unfold lenK
  rw [show (12 * y + (m - 1)) / 12 = y by omega, show (12 * y + (m - 1)) % 12 + 1 = m by omega]

/-- The day n months after (or before) a day. -/
def amDay (d k : Nat) : Nat := msK k + min (domOf d) (lenK k) - 1
theorem am_spec (d k : Nat) : monthOf (amDay d k) = k ∧ domOf (amDay d k) = min (domOf d) (lenK k) := by
  have h1 := dom_bounds d
  have h2 := lenK_bounds k
  exact month_of_date (by omega) (by omega)
theorem am_le (d k : Nat) (hk : k < 1200) : amDay d k ≤ 36524 := by
  have h1 := dom_bounds d
  have h2 := lenK_bounds k
  have := date_le (k := k) (m := min (domOf d) (lenK k)) hk (by omega)
  unfold amDay
  omega
theorem month_mono {d e : Nat} (h : d ≤ e) : monthOf d ≤ monthOf e := by
  obtain ⟨h1, h2⟩ := month_spec d
  obtain ⟨h3, h4⟩ := month_spec e
  by_cases x : monthOf d ≤ monthOf e
  · exact x
  · have := ms_mono (show monthOf e + 1 ≤ monthOf d by omega); omega
/-- Months keep the order of days. -/
theorem am_mono {d e a b : Nat} (h : d ≤ e) (ha : a ≤ b) (hm : monthOf d = monthOf e → a = b) (hlt : monthOf d < monthOf e → a < b) : amDay d a ≤ amDay e b := by
  have hm0 := month_mono h
  have h1 := dom_bounds d
  have h2 := dom_bounds e
  have h3 := lenK_bounds a
  have h4 := lenK_bounds b
  unfold amDay
  by_cases x : monthOf d = monthOf e
  · obtain rfl := hm x
    have : domOf d ≤ domOf e := by
      have h5 := h1.2.2
      have h6 := h2.2.2
      rw [x] at h5
      omega
    omega
  · have h5 := ms_next (hlt (by omega))
    omega
/-- Months one after the other: at most three days are lost. -/
theorem am_twice (d a b : Nat) : amDay (amDay d a) b ≤ amDay d b ∧ amDay d b - amDay (amDay d a) b ≤ 3 := by
  have h1 := (am_spec d a).2
  have h2 := lenK_bounds a
  have h3 := lenK_bounds b
  have h4 := dom_bounds d
  have h5 := lenK_bounds (monthOf d)
  have e1 : amDay (amDay d a) b = msK b + min (domOf (amDay d a)) (lenK b) - 1 := rfl
  have e2 : amDay d b = msK b + min (domOf d) (lenK b) - 1 := rfl
  rw [e1, e2, h1]
  omega
/-- The next day is in the same month, or the first one of the next. -/
theorem next_day (d : Nat) : (domOf d < lenK (monthOf d) ∧ monthOf (d + 1) = monthOf d ∧ domOf (d + 1) = domOf d + 1) ∨ (domOf d = lenK (monthOf d) ∧ monthOf (d + 1) = monthOf d + 1 ∧ domOf (d + 1) = 1) := by
  obtain ⟨h1, h2, h3⟩ := dom_bounds d
  by_cases h : domOf d < lenK (monthOf d)
  · have := month_of_date (k := monthOf d) (m := domOf d + 1) (by omega) (by omega)
    rw [show msK (monthOf d) + (domOf d + 1) - 1 = d + 1 by omega] at this
    exact .inl ⟨h, this⟩
  · have hb := lenK_bounds (monthOf d + 1)
    have := month_of_date (k := monthOf d + 1) (m := 1) (by omega) (by omega)
    have e : msK (monthOf d + 1) = msK (monthOf d) + lenK (monthOf d) := rfl
    rw [show msK (monthOf d + 1) + 1 - 1 = d + 1 by omega] at this
    exact .inr ⟨by omega, this⟩

/-- The day on which the n-th day that has p is reached, of the f days behind 'day'. -/
def advN (p : Nat → Bool) : Nat → Nat → Nat → Option Nat
  | 0, day, n => if n = 0 then some day else none
  | f + 1, day, n => if n = 0 then some day else if p (day + 1) then advN p f (day + 1) (n - 1) else advN p f (day + 1) n
theorem adv_zero (p : Nat → Bool) (f day : Nat) : advN p f day 0 = some day := by cases f <;> rfl
theorem adv_end (p : Nat → Bool) (day n : Nat) (h : 0 < n) : advN p 0 day n = none := if_neg (by omega)
theorem adv_yes {p : Nat → Bool} {f day n : Nat} (h : 0 < n) (hp : p (day + 1) = true) : advN p (f + 1) day n = advN p f (day + 1) (n - 1) := (if_neg (by omega)).trans (if_pos hp)
theorem adv_no {p : Nat → Bool} {f day n : Nat} (h : 0 < n) (hp : p (day + 1) = false) : advN p (f + 1) day n = advN p f (day + 1) n := (if_neg (by omega)).trans (if_neg (by rw [hp]; simp))
theorem adv_ge (p : Nat → Bool) : ∀ (f day n r : Nat), advN p f day n = some r → day ≤ r ∧ r ≤ day + f
  | 0, day, n, r, h => by
    by_cases hn : n = 0
    · subst hn
      rw [adv_zero] at h
      cases h
      omega
    · rw [adv_end _ _ _ (by omega)] at h
      cases h
  | f + 1, day, n, r, h => by
    by_cases hn : n = 0
    · subst hn
      rw [adv_zero] at h
      cases h
      omega
    · cases hp : p (day + 1) with
      | true =>
        rw [adv_yes (by omega) hp] at h
        have := adv_ge p f _ _ r h
        omega
      | false =>
        rw [adv_no (by omega) hp] at h
        have := adv_ge p f _ _ r h
        omega
/-- Steps one after the other. -/
theorem adv_add (p : Nat → Bool) : ∀ (f day n k : Nat), advN p f day (n + k) = (advN p f day n).bind fun r => advN p (f - (r - day)) r k
  | 0, day, n, k => by
    by_cases hn : n = 0
    · subst hn
      rw [adv_zero]
      simp
    · rw [adv_end _ _ _ (by omega), adv_end _ _ _ (by omega)]
      rfl
  | f + 1, day, n, k => by
    by_cases hn : n = 0
    · subst hn
      rw [adv_zero]
      simp
    · have aux : ∀ m, (advN p f (day + 1) m).bind (fun r => advN p (f - (r - (day + 1))) r k) = (advN p f (day + 1) m).bind fun r => advN p (f + 1 - (r - day)) r k := fun m => by
        cases h : advN p f (day + 1) m with
        | none => rfl
        | some r =>
          have := adv_ge p f _ _ r h
          show advN p (f - (r - (day + 1))) r k = advN p (f + 1 - (r - day)) r k
          rw [show f - (r - (day + 1)) = f + 1 - (r - day) by omega]
      cases hp : p (day + 1) with
      | true =>
        rw [adv_yes (by omega) hp, adv_yes (by omega) hp, show n + k - 1 = n - 1 + k by omega, adv_add p f, aux]
      | false =>
        rw [adv_no (by omega) hp, adv_no (by omega) hp, adv_add p f, aux]
/-- The first day from 'day' on that has p, of this and the f days behind it. -/
def nextN (p : Nat → Bool) : Nat → Nat → Option Nat
  | 0, day => if p day then some day else none
  | f + 1, day => if p day then some day else nextN p f (day + 1)
theorem next_yes {p : Nat → Bool} {f day : Nat} (h : p day = true) : nextN p f day = some day := by
  cases f <;> exact if_pos h
theorem next_no {p : Nat → Bool} {f day : Nat} (h : p day = false) : nextN p (f + 1) day = nextN p f (day + 1) := if_neg (by rw [h]; simp)
theorem next_end {p : Nat → Bool} {day : Nat} (h : p day = false) : nextN p 0 day = none := if_neg (by rw [h]; simp)
theorem next_spec (p : Nat → Bool) : ∀ (f day r : Nat), nextN p f day = some r → day ≤ r ∧ r ≤ day + f ∧ p r = true
  | 0, day, r, h => by
    cases hp : p day with
    | true =>
      rw [next_yes hp] at h
      cases h
      exact ⟨Nat.le_refl _, Nat.le_refl _, hp⟩
    | false =>
      rw [next_end hp] at h
      cases h
  | f + 1, day, r, h => by
    cases hp : p day with
    | true =>
      rw [next_yes hp] at h
      cases h
      exact ⟨Nat.le_refl _, by omega, hp⟩
    | false =>
      rw [next_no hp] at h
      have := next_spec p f _ r h
      exact ⟨by omega, by omega, this.2.2⟩
end Go.Proofs.YtnegiopbccllcaaDoor
