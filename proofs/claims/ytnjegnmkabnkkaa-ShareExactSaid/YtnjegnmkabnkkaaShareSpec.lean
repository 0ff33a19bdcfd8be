/- Plain facts on the method of the largest remainder: shares, remainders, ranks. No program in this text. No condition. -/
namespace Go.Proofs.Ytnjegnmkabnkkaa
/-- The sum of f 0 .. f (n - 1); how many of the first n numbers have p. -/
def sumN (f : Nat → Nat) : Nat → Nat
  | 0 => 0
  | n + 1 => sumN f n + f n
def cntN (p : Nat → Bool) : Nat → Nat
  | 0 => 0
  | n + 1 => cntN p n + (if p n then 1 else 0)
theorem cnt_le (p : Nat → Bool) : ∀ n, cntN p n ≤ n
  | 0 => Nat.le_refl _
  | n + 1 => by
    have := cnt_le p n
    show cntN p n + (if p n then 1 else 0) ≤ n + 1
    split <;> omega
theorem cnt_congr {p q : Nat → Bool} : ∀ n, (∀ i, i < n → p i = q i) → cntN p n = cntN q n
  | 0, _ => rfl
  | n + 1, h => by
    show cntN p n + _ = cntN q n + _
    rw [cnt_congr n (fun i hi => h i (by omega)), h n (by omega)]
theorem sum_congr {f g : Nat → Nat} : ∀ n, (∀ i, i < n → f i = g i) → sumN f n = sumN g n
  | 0, _ => rfl
  | n + 1, h => by
    show sumN f n + _ = sumN g n + _
    rw [sum_congr n (fun i hi => h i (by omega)), h n (by omega)]
theorem cnt_mono {p q : Nat → Bool} : ∀ n, (∀ i, i < n → p i = true → q i = true) → cntN p n ≤ cntN q n
  | 0, _ => Nat.le_refl _
  | n + 1, h => by
    have h1 := cnt_mono n (fun i hi => h i (by omega))
    have h2 := h n (by omega)
    show cntN p n + (if p n then 1 else 0) ≤ cntN q n + (if q n then 1 else 0)
    cases hp : p n with
    | false => simp; split <;> omega
    | true => rw [h2 hp]; simp; omega
/-- More have q than p where one that has q lacks p. -/
theorem cnt_lt {p q : Nat → Bool} {b : Nat} (hp : p b = false) (hq : q b = true) : ∀ n, b < n → (∀ i, i < n → p i = true → q i = true) → cntN p n < cntN q n
  | 0, hb, _ => absurd hb (by omega)
  | n + 1, hb, h => by
    show cntN p n + (if p n then 1 else 0) < cntN q n + (if q n then 1 else 0)
    by_cases e : b = n
    · subst e
      have h1 := cnt_mono b (fun i hi => h i (by omega))
      rw [hp, hq]
      simp
      omega
    · have h1 := cnt_lt hp hq n (by omega) (fun i hi => h i (by omega))
      have h2 := h n (by omega)
      cases hpn : p n with
      | false => simp; split <;> omega
      | true => rw [h2 hpn]; simp; omega
theorem cnt_none {p : Nat → Bool} : ∀ n, (∀ i, i < n → p i = false) → cntN p n = 0
  | 0, _ => rfl
  | n + 1, h => by
    show cntN p n + (if p n then 1 else 0) = 0
    rw [cnt_none n (fun i hi => h i (by omega)), h n (by omega)]
    rfl
theorem cnt_all {p : Nat → Bool} : ∀ n, (∀ i, i < n → p i = true) → cntN p n = n
  | 0, _ => rfl
  | n + 1, h => by
    show cntN p n + (if p n then 1 else 0) = n + 1
    rw [cnt_all n (fun i hi => h i (by omega)), h n (by omega)]
    rfl
theorem cnt_some {p : Nat → Bool} : ∀ n, cntN p n < n → ∃ i, i < n ∧ p i = false
  | 0, h => absurd h (by omega)
  | n + 1, h => by
    have h' : cntN p n + (if p n then 1 else 0) < n + 1 := h
    cases hp : p n with
    | false => exact ⟨n, by omega, hp⟩
    | true =>
      rw [hp] at h'
      obtain ⟨i, hi, e⟩ := cnt_some n (by simpa using h')
      exact ⟨i, by omega, e⟩
/-- One more is taken. -/
theorem cnt_add {p : Nat → Bool} {b : Nat} (hp : p b = false) : ∀ n, b < n → cntN (fun i => p i || i == b) n = cntN p n + 1
  | 0, hb => absurd hb (by omega)
  | n + 1, hb => by
    show cntN (fun i => p i || i == b) n + (if (p n || n == b) then 1 else 0) = cntN p n + (if p n then 1 else 0) + 1
    by_cases e : b = n
    · subst e
      rw [cnt_congr (p := fun i => p i || i == b) (q := p) b (fun i hi => by
        have : (i == b) = false := by rw [beq_eq_false_iff_ne]; omega
        simp [this])]
      simp [hp]
    · have : (n == b) = false := by rw [beq_eq_false_iff_ne]; omega
      rw [cnt_add hp n (by omega), this, Bool.or_false]
      omega
theorem sum_add (f g : Nat → Nat) : ∀ n, sumN (fun i => f i + g i) n = sumN f n + sumN g n
  | 0 => rfl
  | n + 1 => by
    show sumN (fun i => f i + g i) n + (f n + g n) = (sumN f n + f n) + (sumN g n + g n)
    rw [sum_add f g n]; omega
theorem sum_mul (c : Nat) (f : Nat → Nat) : ∀ n, sumN (fun i => c * f i) n = c * sumN f n
  | 0 => rfl
  | n + 1 => by
    show sumN (fun i => c * f i) n + c * f n = c * (sumN f n + f n)
    rw [sum_mul c f n, Nat.mul_add]
theorem sum_bit (p : Nat → Bool) : ∀ n, sumN (fun i => if p i then 1 else 0) n = cntN p n
  | 0 => rfl
  | n + 1 => by
    show sumN _ n + _ = cntN p n + _
    rw [sum_bit p n]
theorem sum_const (c : Nat) : ∀ n, sumN (fun _ => c) n = n * c
  | 0 => by simp [sumN]
  | n + 1 => by
    show sumN (fun _ => c) n + c = (n + 1) * c
    rw [sum_const c n, Nat.succ_mul]
theorem sum_at_le (f : Nat → Nat) : ∀ n i, i < n → f i ≤ sumN f n
  | 0, i, h => absurd h (by omega)
  | n + 1, i, h => by
    show f i ≤ sumN f n + f n
    by_cases e : i = n
    · subst e; omega
    · have := sum_at_le f n i (by omega); omega

/-- Does j come ahead of i: by the greater remainder, of equal ones by the smaller index. -/
def ahead (r : Nat → Nat) (j i : Nat) : Bool := decide (r i < r j) || (decide (r j = r i) && decide (j < i))
theorem ahead_iff {r : Nat → Nat} {j i : Nat} : ahead r j i = true ↔ r i < r j ∨ (r j = r i ∧ j < i) := by
  simp [ahead]
theorem ahead_false {r : Nat → Nat} {j i : Nat} : ahead r j i = false ↔ ¬ (r i < r j ∨ (r j = r i ∧ j < i)) := by
  rw [← ahead_iff]; simp
/-- How many of the first n come ahead of i. -/
def rankN (r : Nat → Nat) (n i : Nat) : Nat := cntN (fun j => ahead r j i) n
/-- The numbers that t takes have with them all that come ahead of them. -/
def UpTo (r : Nat → Nat) (n : Nat) (t : Nat → Bool) : Prop := ∀ i j, i < n → j < n → t i = true → ahead r j i = true → t j = true
/-- What is taken so is told by how many are taken. -/
theorem taken_rank {r : Nat → Nat} {n : Nat} {t : Nat → Bool} (h : UpTo r n t) (i : Nat) (hi : i < n) : t i = decide (rankN r n i < cntN t n) := by
  cases ht : t i with
  | true =>
    symm
    rw [decide_eq_true_eq]
    refine cnt_lt (b := i) ?_ ht n hi (fun j hj hp => h i j hi hj ht hp)
    rw [ahead_false]
    omega
  | false =>
    symm
    rw [decide_eq_false_iff_not, Nat.not_lt]
    refine cnt_mono n (fun j hj hp => ?_)
    have hne : j ≠ i := fun e => by rw [e, ht] at hp; cases hp
    cases ha : ahead r j i with
    | true => rfl
    | false =>
      have h1 : ahead r i j = true := by
        rw [ahead_false] at ha
        rw [ahead_iff]
        omega
      have := h j i hj hi hp h1
      rw [ht] at this
      cases this

/-- The first of the greatest of the first n numbers. -/
def bestN (z : Nat → Int) : Nat → Nat
  | 0 => 0
  | n + 1 => if z (bestN z n) < z n then n else bestN z n
theorem best_one (z : Nat → Int) : bestN z 1 = 0 := by
  show (if z 0 < z 0 then 0 else 0) = 0
  split <;> rfl
theorem best_spec (z : Nat → Int) : ∀ n, 1 ≤ n → bestN z n < n ∧ ∀ j, j < n → z j ≤ z (bestN z n) ∧ (j < bestN z n → z j < z (bestN z n))
  | 0, h => absurd h (by omega)
  | 1, _ => by
    rw [best_one]
    exact ⟨by omega, fun j hj => by
      obtain rfl : j = 0 := by omega
      exact ⟨Int.le_refl _, fun h => absurd h (by omega)⟩⟩
  | n + 2, _ => by
    obtain ⟨h1, h2⟩ := best_spec z (n + 1) (by omega)
    show (if z (bestN z (n + 1)) < z (n + 1) then n + 1 else bestN z (n + 1)) < n + 2 ∧ ∀ j, j < n + 2 → z j ≤ z (if z (bestN z (n + 1)) < z (n + 1) then n + 1 else bestN z (n + 1)) ∧ (j < (if z (bestN z (n + 1)) < z (n + 1) then n + 1 else bestN z (n + 1)) → z j < z (if z (bestN z (n + 1)) < z (n + 1) then n + 1 else bestN z (n + 1)))
    by_cases hc : z (bestN z (n + 1)) < z (n + 1)
    · rw [if_pos hc]
      refine ⟨by omega, fun j hj => ?_⟩
      by_cases e : j = n + 1
      · subst e; exact ⟨Int.le_refl _, fun h => absurd h (by omega)⟩
      · have := (h2 j (by omega)).1
        exact ⟨by omega, fun _ => by omega⟩
    · rw [if_neg hc]
      refine ⟨by omega, fun j hj => ?_⟩
      by_cases e : j = n + 1
      · subst e; exact ⟨by omega, fun h => absurd h (by omega)⟩
      · exact h2 j (by omega)
/-- The remainders of those that are not taken; -1 for the others. -/
def leftOf (r : Nat → Nat) (t : Nat → Bool) (i : Nat) : Int := if t i then -1 else (r i : Int)
/-- The next one to be taken. -/
theorem take_next {r : Nat → Nat} {n : Nat} {t : Nat → Bool} (h : UpTo r n t) (hk : cntN t n < n) :
    bestN (leftOf r t) n < n ∧ t (bestN (leftOf r t) n) = false ∧ UpTo r n (fun i => t i || i == bestN (leftOf r t) n) ∧ cntN (fun i => t i || i == bestN (leftOf r t) n) n = cntN t n + 1 := by
  obtain ⟨h1, h2⟩ := best_spec (leftOf r t) n (by omega)
  generalize bestN (leftOf r t) n = b at *
  obtain ⟨i0, hi0, e0⟩ := cnt_some n hk
  have hb : t b = false := by
    cases hb : t b with
    | false => rfl
    | true =>
      have := (h2 i0 hi0).1
      unfold leftOf at this
      rw [hb, e0] at this
      simp at this
      omega
  refine ⟨h1, hb, ?_, cnt_add hb n h1⟩
  intro i j hi hj hti ha
  by_cases hj2 : t j = true
  · simp [hj2]
  have hj3 : t j = false := by simpa using hj2
  have hib : i = b := by
    rcases Bool.or_eq_true _ _ ▸ hti with x | x
    · exact absurd (h i j hi hj x ha) hj2
    · exact eq_of_beq x
  subst hib
  have hz := h2 j hj
  unfold leftOf at hz
  rw [hb, hj3] at hz
  simp at hz
  rw [ahead_iff] at ha
  have : j = i := by omega
  simp [this]
theorem up_none (r : Nat → Nat) (n : Nat) : UpTo r n (fun _ => false) := fun _ _ _ _ h => by cases h
theorem taken_some (r : Nat → Nat) (n : Nat) : ∀ k, k ≤ n → ∃ t, UpTo r n t ∧ cntN t n = k
  | 0, _ => ⟨_, up_none r n, cnt_none n (fun _ _ => rfl)⟩
  | k + 1, h => by
    obtain ⟨t, h1, h2⟩ := taken_some r n k (by omega)
    obtain ⟨_, _, h3, h4⟩ := take_next h1 (by omega)
    exact ⟨_, h3, by omega⟩
/-- Just k numbers have a rank below k. -/
theorem rank_count (r : Nat → Nat) (n k : Nat) (hk : k ≤ n) : cntN (fun i => decide (rankN r n i < k)) n = k := by
  obtain ⟨t, h1, h2⟩ := taken_some r n k hk
  rw [← h2]
  exact (cnt_congr n (fun i hi => by rw [taken_rank h1 i hi])).symm
/-- Each weight as it counts, and their sum. -/
def effW (f : Nat → Nat) (n i : Nat) : Nat := if sumN f n = 0 then 1 else f i
def allW (f : Nat → Nat) (n : Nat) : Nat := if sumN f n = 0 then n else sumN f n
theorem allW_sum (f : Nat → Nat) (n : Nat) : sumN (effW f n) n = allW f n := by
  unfold allW
  by_cases h : sumN f n = 0
  · rw [if_pos h, sum_congr (f := effW f n) (g := fun _ => 1) n (fun i _ => if_pos h), sum_const]
    omega
  · rw [if_neg h]
    exact sum_congr n (fun i _ => if_neg h)
theorem allW_pos (f : Nat → Nat) (n : Nat) (hn : 1 ≤ n) : 1 ≤ allW f n := by
  unfold allW
  split <;> omega
/-- The share rounded down, the remainder, the units that are left, the share. -/
def shQ (T : Nat) (f : Nat → Nat) (n i : Nat) : Nat := T * effW f n i / allW f n
def shR (T : Nat) (f : Nat → Nat) (n i : Nat) : Nat := T * effW f n i % allW f n
def shLeft (T : Nat) (f : Nat → Nat) (n : Nat) : Nat := T - sumN (shQ T f n) n
def shV (T : Nat) (f : Nat → Nat) (n i : Nat) : Nat := shQ T f n i + (if rankN (shR T f n) n i < shLeft T f n then 1 else 0)

theorem sh_split (T : Nat) (f : Nat → Nat) (n : Nat) : T * allW f n = allW f n * sumN (shQ T f n) n + sumN (shR T f n) n := by
  have h := sum_mul T (effW f n) n
  rw [allW_sum] at h
  rw [← h, ← sum_mul, ← sum_add]
  refine sum_congr n (fun i _ => ?_)
  show T * effW f n i = allW f n * (T * effW f n i / allW f n) + T * effW f n i % allW f n
  exact (Nat.div_add_mod _ _).symm
theorem sh_sum_le (T : Nat) (f : Nat → Nat) (n : Nat) (hn : 1 ≤ n) : sumN (shQ T f n) n ≤ T := by
  have h := sh_split T f n
  have hp := allW_pos f n hn
  have h2 : allW f n * sumN (shQ T f n) n ≤ allW f n * T := by rw [Nat.mul_comm (allW f n) T]; omega
  exact Nat.le_of_mul_le_mul_left h2 hp
theorem sh_left (T : Nat) (f : Nat → Nat) (n : Nat) : allW f n * shLeft T f n = sumN (shR T f n) n := by
  have h := sh_split T f n
  unfold shLeft
  rw [Nat.mul_sub, Nat.mul_comm (allW f n) T]
  omega
theorem sum_lt_cnt (g : Nat → Nat) (W : Nat) (hW : 1 ≤ W) : ∀ n, (∀ i, i < n → g i < W) → sumN g n + cntN (fun i => decide (0 < g i)) n ≤ W * cntN (fun i => decide (0 < g i)) n
  | 0, _ => by simp [sumN, cntN]
  | n + 1, h => by
    have ih := sum_lt_cnt g W hW n (fun i hi => h i (by omega))
    have hn := h n (by omega)
    show (sumN g n + g n) + (cntN _ n + (if decide (0 < g n) then 1 else 0)) ≤ W * (cntN _ n + (if decide (0 < g n) then 1 else 0))
    generalize cntN (fun i => decide (0 < g i)) n = c at *
    by_cases hz : 0 < g n
    · rw [decide_eq_true hz, if_pos rfl, Nat.mul_add]
      omega
    · rw [decide_eq_false hz, if_neg (by simp), Nat.add_zero]
      omega
/-- There are no more units left than there are remainders above 0. -/
theorem left_le (T : Nat) (f : Nat → Nat) (n : Nat) (hn : 1 ≤ n) : shLeft T f n ≤ cntN (fun i => decide (0 < shR T f n i)) n := by
  have hp := allW_pos f n hn
  have h1 := sh_left T f n
  have h2 := sum_lt_cnt (shR T f n) (allW f n) hp n (fun i _ => Nat.mod_lt _ hp)
  rw [← h1] at h2
  have h3 : allW f n * shLeft T f n ≤ allW f n * cntN (fun i => decide (0 < shR T f n i)) n := by omega
  exact Nat.le_of_mul_le_mul_left h3 hp
theorem left_n (T : Nat) (f : Nat → Nat) (n : Nat) (hn : 1 ≤ n) : shLeft T f n ≤ n := Nat.le_trans (left_le T f n hn) (cnt_le _ _)
/-- The shares add up to the total. -/
theorem sh_total (T : Nat) (f : Nat → Nat) (n : Nat) (hn : 1 ≤ n) : sumN (shV T f n) n = T := by
  have e : sumN (shV T f n) n = sumN (shQ T f n) n + cntN (fun i => decide (rankN (shR T f n) n i < shLeft T f n)) n := by
    rw [← sum_bit, ← sum_add]
    refine sum_congr n (fun i _ => ?_)
    unfold shV
    by_cases h : rankN (shR T f n) n i < shLeft T f n <;> simp [h]
  rw [e, rank_count _ _ _ (left_n T f n hn)]
  have := sh_sum_le T f n hn
  unfold shLeft
  omega
/-- A remainder 0 gets no unit more. -/
theorem sh_exact (T : Nat) (f : Nat → Nat) (n i : Nat) (hn : 1 ≤ n) (h0 : shR T f n i = 0) : shV T f n i = shQ T f n i := by
  have h1 := left_le T f n hn
  have h2 : cntN (fun j => decide (0 < shR T f n j)) n ≤ rankN (shR T f n) n i := cnt_mono n (fun j hj hp => by
    rw [decide_eq_true_eq] at hp
    rw [ahead_iff]
    omega)
  unfold shV
  rw [if_neg (by omega), Nat.add_zero]
theorem sh_low (T : Nat) (f : Nat → Nat) (n i : Nat) : shQ T f n i ≤ shV T f n i := by unfold shV; omega
theorem sh_high (T : Nat) (f : Nat → Nat) (n i : Nat) : shV T f n i ≤ shQ T f n i + 1 := by unfold shV; split <;> omega
/-- The share is at most the quotient rounded up. -/
theorem sh_up (T : Nat) (f : Nat → Nat) (n i : Nat) (hn : 1 ≤ n) : shV T f n i ≤ (T * effW f n i + allW f n - 1) / allW f n := by
  have hp := allW_pos f n hn
  have e : T * effW f n i = allW f n * shQ T f n i + shR T f n i := (Nat.div_add_mod _ _).symm
  have hr : shR T f n i < allW f n := Nat.mod_lt _ hp
  rw [Nat.le_div_iff_mul_le hp]
  by_cases h0 : shR T f n i = 0
  · rw [sh_exact T f n i hn h0, e, h0, Nat.mul_comm]
    omega
  · have h1 := sh_high T f n i
    have h2 : shV T f n i * allW f n ≤ (shQ T f n i + 1) * allW f n := Nat.mul_le_mul_right _ h1
    rw [Nat.add_mul, Nat.one_mul, Nat.mul_comm (shQ T f n i)] at h2
    rw [e]
    omega
theorem rank_le {r : Nat → Nat} {n i j : Nat} (h : ahead r i j = true) : rankN r n i ≤ rankN r n j := cnt_mono n (fun k _ hk => by
  rw [ahead_iff] at *
  omega)
theorem ahead_share {T : Nat} {f : Nat → Nat} {n i j : Nat} (hq : shQ T f n j ≤ shQ T f n i) (h : shQ T f n j = shQ T f n i → ahead (shR T f n) i j = true) : shV T f n j ≤ shV T f n i := by
  by_cases e : shQ T f n j = shQ T f n i
  · have := rank_le (n := n) (h e)
    unfold shV
    split <;> split <;> omega
  · have h1 := sh_high T f n j
    have h2 := sh_low T f n i
    omega
/-- Equal quotients: the order of the products is that of the remainders. -/
theorem div_order {a b W : Nat} (h : a ≤ b) : a / W ≤ b / W ∧ (a / W = b / W → a % W ≤ b % W ∧ (a < b → a % W < b % W)) := by
  refine ⟨Nat.div_le_div_right h, fun e => ?_⟩
  have h1 := Nat.div_add_mod a W
  have h2 := Nat.div_add_mod b W
  rw [e] at h1
  omega
/-- A weight that is not smaller and stands earlier gets no smaller share. -/
theorem sh_order (T : Nat) (f : Nat → Nat) (n i k : Nat) (hik : i < k) (h : f k ≤ f i) : shV T f n k ≤ shV T f n i := by
  have he : effW f n k ≤ effW f n i := by unfold effW; split <;> omega
  obtain ⟨h1, h2⟩ := div_order (W := allW f n) (Nat.mul_le_mul_left T he)
  refine ahead_share h1 (fun e => ?_)
  have := (h2 e).1
  rw [ahead_iff]
  show T * effW f n k % allW f n < T * effW f n i % allW f n ∨ _
  by_cases hlt : T * effW f n k % allW f n < T * effW f n i % allW f n
  · exact .inl hlt
  · exact .inr ⟨by show T * effW f n i % allW f n = T * effW f n k % allW f n; omega, hik⟩
/-- A greater weight, later, gets no smaller share. -/
theorem sh_order2 (T : Nat) (f : Nat → Nat) (n i k : Nat) (hn : 1 ≤ n) (h : f i < f k) (hk : k < n) : shV T f n i ≤ shV T f n k := by
  have hs : sumN f n ≠ 0 := by
    have := sum_at_le f n k hk
    omega
  have ei : effW f n i = f i := if_neg hs
  have ek : effW f n k = f k := if_neg hs
  by_cases hT : T = 0
  · have : ∀ j, shV T f n j = 0 := fun j => by
      have h0 : shR T f n j = 0 := by unfold shR; rw [hT]; simp
      rw [sh_exact T f n j hn h0]
      unfold shQ
      rw [hT]
      simp
    rw [this i, this k]
    omega
  · have hlt : T * effW f n i < T * effW f n k := by
      rw [ei, ek]
      exact Nat.mul_lt_mul_of_pos_left h (by omega)
    obtain ⟨h1, h2⟩ := div_order (W := allW f n) (Nat.le_of_lt hlt)
    refine ahead_share h1 (fun e => ?_)
    rw [ahead_iff]
    exact .inl ((h2 e).2 hlt)
/-- All weights times a factor: the same shares. -/
theorem sh_scaled (T : Nat) (f : Nat → Nat) (n c i : Nat) (hc : 1 ≤ c) : shV T (fun j => c * f j) n i = shV T f n i := by
  have hs : sumN (fun j => c * f j) n = c * sumN f n := sum_mul c f n
  by_cases h0 : sumN f n = 0
  · have h1 : sumN (fun j => c * f j) n = 0 := by rw [hs, h0]; rfl
    have ha : allW (fun j => c * f j) n = allW f n := by unfold allW; rw [if_pos h1, if_pos h0]
    have he : effW (fun j => c * f j) n = effW f n := by funext j; unfold effW; rw [if_pos h1, if_pos h0]
    unfold shV shLeft
    have hq : shQ T (fun j => c * f j) n = shQ T f n := by funext j; unfold shQ; rw [ha, he]
    have hr : shR T (fun j => c * f j) n = shR T f n := by funext j; unfold shR; rw [ha, he]
    rw [hq, hr]
  · have h1 : sumN (fun j => c * f j) n ≠ 0 := by
      rw [hs]
      exact Nat.mul_ne_zero (by omega) h0
    have ha : allW (fun j => c * f j) n = c * allW f n := by unfold allW; rw [if_neg h1, if_neg h0, hs]
    have he : ∀ j, T * effW (fun j => c * f j) n j = c * (T * effW f n j) := fun j => by
      unfold effW
      rw [if_neg h1, if_neg h0, Nat.mul_left_comm]
    have hq : shQ T (fun j => c * f j) n = shQ T f n := by
      funext j
      unfold shQ
      rw [ha, he]
      exact Nat.mul_div_mul_left _ _ (by omega)
    have hr : ∀ j, shR T (fun j => c * f j) n j = c * shR T f n j := fun j => by
      unfold shR
      rw [ha, he]
      exact Nat.mul_mod_mul_left _ _ _
    have hk : ∀ j, rankN (shR T (fun j => c * f j) n) n j = rankN (shR T f n) n j := fun j => cnt_congr n (fun k _ => by
      have e1 : ∀ a b : Nat, c * a < c * b ↔ a < b := fun a b => Nat.mul_lt_mul_left (by omega)
      have e2 : ∀ a b : Nat, c * a = c * b ↔ a = b := fun a b => ⟨fun h => Nat.eq_of_mul_eq_mul_left (by omega) h, fun h => by rw [h]⟩
      unfold ahead
      simp only [hr, e1, e2])
    unfold shV shLeft
    rw [hq, hk]
/-- No share is above its weight if the total is below the weights' sum. -/
theorem sh_cap (T : Nat) (f : Nat → Nat) (n i : Nat) (hn : 1 ≤ n) (hT : T < sumN f n) : shV T f n i ≤ f i := by
  have hs : sumN f n ≠ 0 := by omega
  have ei : effW f n i = f i := if_neg hs
  have ea : allW f n = sumN f n := if_neg hs
  have e : T * f i = sumN f n * shQ T f n i + shR T f n i := by
    have := (Nat.div_add_mod (T * effW f n i) (allW f n)).symm
    rw [ei, ea] at this
    unfold shQ shR
    rw [ei, ea]
    exact this
  by_cases h0 : f i = 0
  · rw [h0, Nat.mul_zero] at e
    have hr : shR T f n i = 0 := by omega
    rw [sh_exact T f n i hn hr]
    have : sumN f n * shQ T f n i = 0 := by omega
    rcases Nat.mul_eq_zero.1 this with h | h <;> omega
  · have hlt : T * f i < sumN f n * f i := Nat.mul_lt_mul_of_pos_right hT (by omega)
    have hq : shQ T f n i < f i := by
      have : sumN f n * shQ T f n i < sumN f n * f i := by omega
      exact Nat.lt_of_mul_lt_mul_left this
    have := sh_high T f n i
    omega
end Go.Proofs.Ytnjegnmkabnkkaa
