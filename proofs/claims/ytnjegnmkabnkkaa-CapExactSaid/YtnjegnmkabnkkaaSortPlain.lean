/- Plain facts on sorting in place by moving neighbours, rotating and merging: no program in this text. No condition. -/
import Derived.Test.YtnjegnmkabnkkaaShareSpec
namespace Go.Proofs.Ytnjegnmkabnkkaa

theorem ahead_trans {r : Nat → Nat} {a b c : Nat} (h1 : ahead r a b = true) (h2 : ahead r b c = true) : ahead r a c = true := by
  rw [ahead_iff] at *; omega
theorem ahead_other {r : Nat → Nat} {a b : Nat} (h : a ≠ b) (h1 : ahead r a b = false) : ahead r b a = true := by
  rw [ahead_false] at h1; rw [ahead_iff]; omega
/-- What the comparison tells of a later number against an earlier one. -/
theorem ahead_late {r : Nat → Nat} {x y : Nat} (h : y < x) : ahead r x y = decide (r y < r x) := by
  rw [Bool.eq_iff_iff, ahead_iff, decide_eq_true_eq]; omega

/-- g holds what f holds, moved about within the places a .. b - 1. -/
def Moved (a b : Nat) (f g : Nat → Nat) : Prop :=
  ∃ s : Nat → Nat, (∀ i, g i = f (s i)) ∧ (∀ i, a ≤ i → i < b → a ≤ s i ∧ s i < b) ∧ (∀ i, (i < a ∨ b ≤ i) → s i = i) ∧ ∀ i j, s i = s j → i = j
theorem Moved.refl (a b : Nat) (f : Nat → Nat) : Moved a b f f := ⟨id, fun _ => rfl, fun _ h1 h2 => ⟨h1, h2⟩, fun _ _ => rfl, fun _ _ h => h⟩
theorem Moved.trans {a b : Nat} {f g h : Nat → Nat} (h1 : Moved a b f g) (h2 : Moved a b g h) : Moved a b f h := by
  obtain ⟨s, s1, s2, s3, s4⟩ := h1
  obtain ⟨t, t1, t2, t3, t4⟩ := h2
  refine ⟨fun i => s (t i), fun i => by rw [t1, s1], fun i ha hb => ?_, fun i hi => ?_, fun i j hij => t4 _ _ (s4 _ _ hij)⟩
  · obtain ⟨u1, u2⟩ := t2 i ha hb
    exact s2 _ u1 u2
  · show s (t i) = i
    rw [t3 i hi, s3 i hi]
theorem Moved.mono {a b a' b' : Nat} {f g : Nat → Nat} (h : Moved a b f g) (ha : a' ≤ a) (hb : b ≤ b') : Moved a' b' f g := by
  obtain ⟨s, s1, s2, s3, s4⟩ := h
  refine ⟨s, s1, fun i h1 h2 => ?_, fun i hi => s3 i (by omega), s4⟩
  by_cases hi : a ≤ i ∧ i < b
  · have := s2 i hi.1 hi.2; omega
  · rw [s3 i (by omega)]; omega
theorem Moved.out {a b : Nat} {f g : Nat → Nat} (h : Moved a b f g) (i : Nat) (hi : i < a ∨ b ≤ i) : g i = f i := by
  obtain ⟨s, s1, _, s3, _⟩ := h
  rw [s1, s3 i hi]
theorem Moved.in_ {a b : Nat} {f g : Nat → Nat} (h : Moved a b f g) (i : Nat) (h1 : a ≤ i) (h2 : i < b) : ∃ k, a ≤ k ∧ k < b ∧ g i = f k := by
  obtain ⟨s, s1, s2, _, _⟩ := h
  obtain ⟨u1, u2⟩ := s2 i h1 h2
  exact ⟨s i, u1, u2, s1 i⟩

/-- Two places exchanged. -/
def swpF (f : Nat → Nat) (p q i : Nat) : Nat := f (if i = p then q else if i = q then p else i)
theorem swpF_moved {a b : Nat} (f : Nat → Nat) {p q : Nat} (hp : a ≤ p ∧ p < b) (hq : a ≤ q ∧ q < b) : Moved a b f (swpF f p q) := by
  refine ⟨fun i => if i = p then q else if i = q then p else i, fun _ => rfl, fun i h1 h2 => ?_, fun i hi => ?_, fun i j h => ?_⟩
  · dsimp only
    split
    · omega
    · split <;> omega
  · dsimp only
    split
    · omega
    · split <;> omega
  · by_cases e1 : i = p <;> by_cases e2 : i = q <;> by_cases e3 : j = p <;> by_cases e4 : j = q <;> simp_all

/-- n places from a on exchanged with n places from b on. -/
def swS (a b n i : Nat) : Nat := if a ≤ i ∧ i < a + n then b + (i - a) else if b ≤ i ∧ i < b + n then a + (i - b) else i
theorem swS_cases (a b n i : Nat) : (a ≤ i ∧ i < a + n ∧ swS a b n i = b + (i - a)) ∨ (¬ (a ≤ i ∧ i < a + n) ∧ (b ≤ i ∧ i < b + n) ∧ swS a b n i = a + (i - b)) ∨ (¬ (a ≤ i ∧ i < a + n) ∧ ¬ (b ≤ i ∧ i < b + n) ∧ swS a b n i = i) := by
  unfold swS
  by_cases h1 : a ≤ i ∧ i < a + n
  · rw [if_pos h1]; exact .inl ⟨h1.1, h1.2, rfl⟩
  · rw [if_neg h1]
    by_cases h2 : b ≤ i ∧ i < b + n
    · rw [if_pos h2]; exact .inr (.inl ⟨h1, h2, rfl⟩)
    · rw [if_neg h2]; exact .inr (.inr ⟨h1, h2, rfl⟩)
/-- The blocks a .. m - 1 and m .. b - 1 turned about. -/
def rotS (a m b i : Nat) : Nat := if a ≤ i ∧ i < a + (b - m) then m + (i - a) else if a + (b - m) ≤ i ∧ i < b then a + (i - (a + (b - m))) else i
theorem rotS_cases (a m b i : Nat) : (a ≤ i ∧ i < a + (b - m) ∧ rotS a m b i = m + (i - a)) ∨ (¬ (a ≤ i ∧ i < a + (b - m)) ∧ (a + (b - m) ≤ i ∧ i < b) ∧ rotS a m b i = a + (i - (a + (b - m)))) ∨ (¬ (a ≤ i ∧ i < a + (b - m)) ∧ ¬ (a + (b - m) ≤ i ∧ i < b) ∧ rotS a m b i = i) := by
  unfold rotS
  by_cases h1 : a ≤ i ∧ i < a + (b - m)
  · rw [if_pos h1]; exact .inl ⟨h1.1, h1.2, rfl⟩
  · rw [if_neg h1]
    by_cases h2 : a + (b - m) ≤ i ∧ i < b
    · rw [if_pos h2]; exact .inr (.inl ⟨h1, h2, rfl⟩)
    · rw [if_neg h2]; exact .inr (.inr ⟨h1, h2, rfl⟩)
def rotF (f : Nat → Nat) (a m b i : Nat) : Nat := f (rotS a m b i)
theorem rotF_moved {a m b : Nat} (f : Nat → Nat) (h1 : a ≤ m) (h2 : m ≤ b) : Moved a b f (rotF f a m b) := by
  refine ⟨rotS a m b, fun _ => rfl, fun i h3 h4 => ?_, fun i hi => ?_, fun i j h => ?_⟩
  · rcases rotS_cases a m b i with h | h | h <;> omega
  · rcases rotS_cases a m b i with h | h | h <;> omega
  · rcases rotS_cases a m b i with h3 | h3 | h3 <;> rcases rotS_cases a m b j with h4 | h4 | h4 <;> omega
/-- One step of the turning about, where the left block is the longer one. -/
theorem rot_left {m i j : Nat} (h1 : j < i) (h2 : i ≤ m) (x : Nat) : swS (m - i) m j (rotS (m - (i - j)) m (m + j) x) = rotS (m - i) m (m + j) x := by
  rcases rotS_cases (m - (i - j)) m (m + j) x with h | h | h <;> rcases rotS_cases (m - i) m (m + j) x with k | k | k <;>
    rcases swS_cases (m - i) m j (rotS (m - (i - j)) m (m + j) x) with l | l | l <;> omega
theorem rot_right {m i j : Nat} (h1 : i < j) (h2 : i ≤ m) (x : Nat) : swS (m - i) (m + j - i) i (rotS (m - i) m (m + (j - i)) x) = rotS (m - i) m (m + j) x := by
  rcases rotS_cases (m - i) m (m + (j - i)) x with h | h | h <;> rcases rotS_cases (m - i) m (m + j) x with k | k | k <;>
    rcases swS_cases (m - i) (m + j - i) i (rotS (m - i) m (m + (j - i)) x) with l | l | l <;> omega
theorem rot_even {m i : Nat} (h2 : i ≤ m) (x : Nat) : swS (m - i) m i x = rotS (m - i) m (m + i) x := by
  rcases rotS_cases (m - i) m (m + i) x with k | k | k <;> rcases swS_cases (m - i) m i x with l | l | l <;> omega
/-- One exchange more. -/
theorem swS_next {a b n x : Nat} (h : a + n < b) : swS a b n (if x = a + n then b + n else if x = b + n then a + n else x) = swS a b (n + 1) x := by
  by_cases e1 : x = a + n
  · subst e1
    rw [if_pos rfl]
    rcases swS_cases a b n (b + n) with k | k | k <;> rcases swS_cases a b (n + 1) (a + n) with l | l | l <;> omega
  · rw [if_neg e1]
    by_cases e2 : x = b + n
    · subst e2
      rw [if_pos rfl]
      rcases swS_cases a b n (a + n) with k | k | k <;> rcases swS_cases a b (n + 1) (b + n) with l | l | l <;> omega
    · rw [if_neg e2]
      rcases swS_cases a b n x with k | k | k <;> rcases swS_cases a b (n + 1) x with l | l | l <;> omega
theorem swS_none (a b x : Nat) : swS a b 0 x = x := by rcases swS_cases a b 0 x with k | k | k <;> omega
/-- A place carried up (down) by exchanges of neighbours. -/
theorem rot_up {a k x : Nat} (h : a ≤ k) : rotS a (a + 1) (k + 1) (if x = k then k + 1 else if x = k + 1 then k else x) = rotS a (a + 1) (k + 2) x := by
  by_cases e1 : x = k
  · subst e1
    rw [if_pos rfl]
    rcases rotS_cases a (a + 1) (x + 1) (x + 1) with p | p | p <;> rcases rotS_cases a (a + 1) (x + 2) x with l | l | l <;> omega
  · rw [if_neg e1]
    by_cases e2 : x = k + 1
    · subst e2
      rw [if_pos rfl]
      rcases rotS_cases a (a + 1) (k + 1) k with p | p | p <;> rcases rotS_cases a (a + 1) (k + 2) (k + 1) with l | l | l <;> omega
    · rw [if_neg e2]
      rcases rotS_cases a (a + 1) (k + 1) x with p | p | p <;> rcases rotS_cases a (a + 1) (k + 2) x with l | l | l <;> omega
theorem rot_down {k m x : Nat} (h : k + 1 ≤ m) : rotS (k + 1) m (m + 1) (if x = k + 1 then k else if x = k then k + 1 else x) = rotS k m (m + 1) x := by
  by_cases e1 : x = k + 1
  · subst e1
    rw [if_pos rfl]
    rcases rotS_cases (k + 1) m (m + 1) k with p | p | p <;> rcases rotS_cases k m (m + 1) (k + 1) with l | l | l <;> omega
  · rw [if_neg e1]
    by_cases e2 : x = k
    · subst e2
      rw [if_pos rfl]
      rcases rotS_cases (x + 1) m (m + 1) (x + 1) with p | p | p <;> rcases rotS_cases x m (m + 1) x with l | l | l <;> omega
    · rw [if_neg e2]
      rcases rotS_cases (k + 1) m (m + 1) x with p | p | p <;> rcases rotS_cases k m (m + 1) x with l | l | l <;> omega
theorem rot_one (a m x : Nat) (h : a ≤ m) : rotS a (a + 1) (a + 1) x = x ∧ rotS m m (m + 1) x = x := by
  rcases rotS_cases a (a + 1) (a + 1) x with p | p | p <;> rcases rotS_cases m m (m + 1) x with l | l | l <;> omega

/-- The places a .. b - 1 hold numbers each ahead of the next. -/
def SortedOn (r : Nat → Nat) (f : Nat → Nat) (a b : Nat) : Prop := ∀ i j, a ≤ i → i < j → j < b → ahead r (f i) (f j) = true
theorem SortedOn.sub {r f : Nat → Nat} {a b a' b' : Nat} (h : SortedOn r f a b) (h1 : a ≤ a') (h2 : b' ≤ b) : SortedOn r f a' b' := fun i j hi hij hj => h i j (by omega) hij (by omega)
theorem SortedOn.same {r f g : Nat → Nat} {a b : Nat} (h : SortedOn r f a b) (e : ∀ i, a ≤ i → i < b → g i = f i) : SortedOn r g a b := fun i j hi hij hj => by
  rw [e i (by omega) (by omega), e j (by omega) (by omega)]; exact h i j hi hij hj
/-- Two sorted stretches, all of the first ahead of all of the second. -/
theorem SortedOn.join {r f : Nat → Nat} {a m b : Nat} (h1 : SortedOn r f a m) (h2 : SortedOn r f m b) (h3 : ∀ i j, a ≤ i → i < m → m ≤ j → j < b → ahead r (f i) (f j) = true) : SortedOn r f a b := fun i j hi hij hj => by
  by_cases e1 : j < m
  · exact h1 i j hi hij e1
  · by_cases e2 : m ≤ i
    · exact h2 i j e2 hij hj
    · exact h3 i j hi (by omega) (by omega) hj

/-- What a merge is given: two sorted stretches, every number of the first below every number of the second. -/
structure Halves (r f : Nat → Nat) (a m b : Nat) : Prop where
  left : SortedOn r f a m
  right : SortedOn r f m b
  below : ∀ i j, a ≤ i → i < m → m ≤ j → j < b → f i < f j
/-- What the merge asks of the right number at j and the left number at i. -/
theorem Halves.test {r f : Nat → Nat} {a m b : Nat} (h : Halves r f a m b) {i j : Nat} (h1 : a ≤ i) (h2 : i < m) (h3 : m ≤ j) (h4 : j < b) : ahead r (f j) (f i) = decide (r (f i) < r (f j)) := ahead_late (h.below i j h1 h2 h3 h4)
theorem Halves.no {r f : Nat → Nat} {a m b : Nat} (h : Halves r f a m b) {i j : Nat} (h1 : a ≤ i) (h2 : i < m) (h3 : m ≤ j) (h4 : j < b) (hn : ¬ r (f i) < r (f j)) : ahead r (f i) (f j) = true := by
  refine ahead_other ?_ ?_
  · have := h.below i j h1 h2 h3 h4; omega
  · rw [h.test h1 h2 h3 h4, decide_eq_false hn]
theorem Halves.yes {r f : Nat → Nat} {a m b : Nat} (h : Halves r f a m b) {i j : Nat} (h1 : a ≤ i) (h2 : i < m) (h3 : m ≤ j) (h4 : j < b) (hn : r (f i) < r (f j)) : ahead r (f j) (f i) = true := by
  rw [h.test h1 h2 h3 h4, decide_eq_true hn]
/-- The one number of the left is put where it belongs. -/
theorem merge_one {r f : Nat → Nat} {a b i : Nat} (h : Halves r f a (a + 1) b) (h1 : a + 1 ≤ i) (h2 : i ≤ b) (l : i = a + 1 ∨ r (f a) < r (f (i - 1))) (u : i = b ∨ ¬ r (f a) < r (f i)) : SortedOn r (rotF f a (a + 1) i) a b := by
  have e : ∀ x, rotF f a (a + 1) i x = f (rotS a (a + 1) i x) := fun _ => rfl
  have hl : ∀ k, a + 1 ≤ k → k < i → ahead r (f k) (f a) = true := fun k k1 k2 => by
    rcases l with l | l
    · omega
    · have hy := h.yes (i := a) (j := i - 1) (by omega) (by omega) (by omega) (by omega) l
      by_cases e : k = i - 1
      · rw [e]; exact hy
      · exact ahead_trans (h.right k (i - 1) (by omega) (by omega) (by omega)) hy
  have hu : ∀ k, i ≤ k → k < b → ahead r (f a) (f k) = true := fun k k1 k2 => by
    rcases u with u | u
    · omega
    · have hy := h.no (i := a) (j := i) (by omega) (by omega) (by omega) (by omega) u
      by_cases e : k = i
      · rw [e]; exact hy
      · exact ahead_trans hy (h.right i k (by omega) (by omega) (by omega))
  intro x y hx hxy hy
  rw [e, e]
  rcases rotS_cases a (a + 1) i x with p | p | p <;> rcases rotS_cases a (a + 1) i y with q | q | q
  · rw [p.2.2, q.2.2]; exact h.right _ _ (by omega) (by omega) (by omega)
  · rw [p.2.2, q.2.2]
    have := hl (a + 1 + (x - a)) (by omega) (by omega)
    rw [show a + (y - (a + (i - (a + 1)))) = a by omega]; exact this
  · rw [p.2.2, q.2.2]; exact h.right _ _ (by omega) (by omega) (by omega)
  · omega
  · omega
  · rw [p.2.2, q.2.2, show a + (x - (a + (i - (a + 1)))) = a by omega]; exact hu y (by omega) (by omega)
  · omega
  · omega
  · rw [p.2.2, q.2.2]; exact h.right _ _ (by omega) (by omega) (by omega)
/-- The one number of the right is put where it belongs. -/
theorem merge_last {r f : Nat → Nat} {a m i : Nat} (h : Halves r f a m (m + 1)) (h1 : a ≤ i) (h2 : i ≤ m) (l : i = a ∨ ¬ r (f (i - 1)) < r (f m)) (u : i = m ∨ r (f i) < r (f m)) : SortedOn r (rotF f i m (m + 1)) a (m + 1) := by
  have e : ∀ x, rotF f i m (m + 1) x = f (rotS i m (m + 1) x) := fun _ => rfl
  have hl : ∀ k, a ≤ k → k < i → ahead r (f k) (f m) = true := fun k k1 k2 => by
    rcases l with l | l
    · omega
    · have hy := h.no (i := i - 1) (j := m) (by omega) (by omega) (by omega) (by omega) l
      by_cases e : k = i - 1
      · rw [e]; exact hy
      · exact ahead_trans (h.left k (i - 1) (by omega) (by omega) (by omega)) hy
  have hu : ∀ k, i ≤ k → k < m → ahead r (f m) (f k) = true := fun k k1 k2 => by
    rcases u with u | u
    · omega
    · have hy := h.yes (i := i) (j := m) (by omega) (by omega) (by omega) (by omega) u
      by_cases e : k = i
      · rw [e]; exact hy
      · exact ahead_trans hy (h.left i k (by omega) (by omega) (by omega))
  intro x y hx hxy hy
  rw [e, e]
  rcases rotS_cases i m (m + 1) x with p | p | p <;> rcases rotS_cases i m (m + 1) y with q | q | q
  · omega
  · rw [p.2.2, q.2.2, show m + (x - i) = m by omega]; exact hu _ (by omega) (by omega)
  · omega
  · omega
  · rw [p.2.2, q.2.2]; exact h.left _ _ (by omega) (by omega) (by omega)
  · omega
  · rw [p.2.2, q.2.2, show m + (y - i) = m by omega]; exact hl x (by omega) (by omega)
  · rw [p.2.2, q.2.2]; exact h.left _ _ (by omega) (by omega) (by omega)
  · rw [p.2.2, q.2.2]; exact h.left _ _ (by omega) (by omega) (by omega)

/-- The cut of a merge: what is left of start and what is right of e on the other side go to the front. -/
structure MergeCut (r f : Nat → Nat) (a m b mid start e : Nat) : Prop where
  h : Halves r f a m b
  am : a ≤ start ∧ start ≤ m
  mb : m ≤ e ∧ e ≤ b
  sum : start + (e - m) = mid
  low : start = a ∨ e = b ∨ ¬ r (f (start - 1)) < r (f e)
  up : start = m ∨ e = m ∨ r (f start) < r (f (e - 1))
theorem MergeCut.first {r f : Nat → Nat} {a m b mid start e : Nat} (c : MergeCut r f a m b mid start e) : Halves r (rotF f start m e) a start mid := by
  obtain ⟨h, am, mb, sum, low, up⟩ := c
  have ee : ∀ x, rotF f start m e x = f (rotS start m e x) := fun _ => rfl
  refine ⟨fun i j hi hij hj => ?_, fun i j hi hij hj => ?_, fun i j h1 h2 h3 h4 => ?_⟩
  · rw [ee, ee]
    rcases rotS_cases start m e i with p | p | p <;> rcases rotS_cases start m e j with q | q | q <;> try omega
    rw [p.2.2, q.2.2]; exact h.left _ _ (by omega) (by omega) (by omega)
  · rw [ee, ee]
    rcases rotS_cases start m e i with p | p | p <;> rcases rotS_cases start m e j with q | q | q <;> try omega
    rw [p.2.2, q.2.2]; exact h.right _ _ (by omega) (by omega) (by omega)
  · rw [ee, ee]
    rcases rotS_cases start m e i with p | p | p <;> rcases rotS_cases start m e j with q | q | q <;> try omega
    rw [p.2.2, q.2.2]; exact h.below _ _ (by omega) (by omega) (by omega) (by omega)
theorem MergeCut.second {r f : Nat → Nat} {a m b mid start e : Nat} (c : MergeCut r f a m b mid start e) : Halves r (rotF f start m e) mid e b := by
  obtain ⟨h, am, mb, sum, low, up⟩ := c
  have ee : ∀ x, rotF f start m e x = f (rotS start m e x) := fun _ => rfl
  refine ⟨fun i j hi hij hj => ?_, fun i j hi hij hj => ?_, fun i j h1 h2 h3 h4 => ?_⟩
  · rw [ee, ee]
    rcases rotS_cases start m e i with p | p | p <;> rcases rotS_cases start m e j with q | q | q <;> try omega
    rw [p.2.2, q.2.2]; exact h.left _ _ (by omega) (by omega) (by omega)
  · rw [ee, ee]
    rcases rotS_cases start m e i with p | p | p <;> rcases rotS_cases start m e j with q | q | q <;> try omega
    rw [p.2.2, q.2.2]; exact h.right _ _ (by omega) (by omega) (by omega)
  · rw [ee, ee]
    rcases rotS_cases start m e i with p | p | p <;> rcases rotS_cases start m e j with q | q | q <;> try omega
    rw [p.2.2, q.2.2]; exact h.below _ _ (by omega) (by omega) (by omega) (by omega)
theorem MergeCut.apart {r f : Nat → Nat} {a m b mid start e : Nat} (c : MergeCut r f a m b mid start e) (x y : Nat) (h1 : a ≤ x) (h2 : x < mid) (h3 : mid ≤ y) (h4 : y < b) : ahead r (rotF f start m e x) (rotF f start m e y) = true := by
  obtain ⟨h, am, mb, sum, low, up⟩ := c
  have ee : ∀ x, rotF f start m e x = f (rotS start m e x) := fun _ => rfl
  have hlow : ∀ i j, a ≤ i → i < start → e ≤ j → j < b → ahead r (f i) (f j) = true := fun i j i1 i2 j1 j2 => by
    rcases low with l | l | l
    · omega
    · omega
    · have hy := h.no (i := start - 1) (j := e) (by omega) (by omega) (by omega) (by omega) l
      have h5 : ahead r (f i) (f e) = true := by
        by_cases q : i = start - 1
        · rw [q]; exact hy
        · exact ahead_trans (h.left i (start - 1) (by omega) (by omega) (by omega)) hy
      by_cases q : j = e
      · rw [q]; exact h5
      · exact ahead_trans h5 (h.right e j (by omega) (by omega) (by omega))
  have hup : ∀ i j, start ≤ i → i < m → m ≤ j → j < e → ahead r (f j) (f i) = true := fun i j i1 i2 j1 j2 => by
    rcases up with l | l | l
    · omega
    · omega
    · have hy := h.yes (i := start) (j := e - 1) (by omega) (by omega) (by omega) (by omega) l
      have h5 : ahead r (f j) (f start) = true := by
        by_cases q : j = e - 1
        · rw [q]; exact hy
        · exact ahead_trans (h.right j (e - 1) (by omega) (by omega) (by omega)) hy
      by_cases q : i = start
      · rw [q]; exact h5
      · exact ahead_trans h5 (h.left start i (by omega) (by omega) (by omega))
  rw [ee, ee]
  rcases rotS_cases start m e x with p | p | p <;> rcases rotS_cases start m e y with q | q | q <;> try omega
  · rw [p.2.2, q.2.2]; exact hup _ _ (by omega) (by omega) (by omega) (by omega)
  · rw [p.2.2, q.2.2]; exact h.right _ _ (by omega) (by omega) (by omega)
  · rw [p.2.2, q.2.2]; exact h.left _ _ (by omega) (by omega) (by omega)
  · rw [p.2.2, q.2.2]; exact hlow _ _ (by omega) (by omega) (by omega) (by omega)
/-- The two parts behind the cut, each sorted, make the whole sorted. -/
theorem MergeCut.whole {r f g1 g2 : Nat → Nat} {a m b mid start e : Nat} (c : MergeCut r f a m b mid start e) (hm : a ≤ mid ∧ mid ≤ b) (m1 : Moved a mid (rotF f start m e) g1) (s1 : SortedOn r g1 a mid) (m2 : Moved mid b g1 g2) (s2 : SortedOn r g2 mid b) :
    Moved a b f g2 ∧ SortedOn r g2 a b := by
  have hr := (rotF_moved f c.am.2 c.mb.1).mono c.am.1 c.mb.2
  refine ⟨(hr.trans (m1.mono (Nat.le_refl _) hm.2)).trans (m2.mono hm.1 (Nat.le_refl _)), ?_⟩
  refine SortedOn.join (s1.same (fun i h1 h2 => m2.out i (.inl h2))) s2 (fun i j h1 h2 h3 h4 => ?_)
  rw [m2.out i (.inl h2)]
  obtain ⟨k, k1, k2, k3⟩ := m1.in_ i h1 h2
  obtain ⟨l, l1, l2, l3⟩ := m2.in_ j h3 h4
  rw [k3, l3, m1.out l (.inr l1)]
  exact c.apart k l k1 k2 l1 l2
theorem Halves.keep {r f g : Nat → Nat} {a m b : Nat} (h : Halves r f a m b) (e : ∀ i, a ≤ i → i < b → g i = f i) (h1 : a ≤ m) (h2 : m ≤ b) : Halves r g a m b :=
  ⟨h.left.same (fun i x y => e i x (by omega)), h.right.same (fun i x y => e i (by omega) y), fun i j i1 i2 j1 j2 => by rw [e i i1 (by omega), e j (by omega) j2]; exact h.below i j i1 i2 j1 j2⟩
theorem Halves.lone {r f : Nat → Nat} {a m b : Nat} (h : Halves r f a m b) (hm : m = a ∨ m = b) : SortedOn r f a b := by
  rcases hm with rfl | rfl
  · exact h.right
  · exact h.left
/-- Insertion sort, ahead of the number at place i. -/
structure InsOut (r f g : Nat → Nat) (a b i : Nat) : Prop where
  moved : Moved a b f g
  rest : ∀ k, i ≤ k → g k = f k
  sorted : SortedOn r g a i
  less : ∀ p k, a ≤ p → p < i → i ≤ k → k < b → g p < f k
/-- .. while the number from place i stands at place j. -/
structure InsAt (r f h : Nat → Nat) (a b i j : Nat) : Prop where
  moved : Moved a b f h
  rest : ∀ k, i < k → h k = f k
  here : h j = f i
  pairs : ∀ p q, a ≤ p → p < q → q ≤ i → p ≠ j → q ≠ j → ahead r (h p) (h q) = true
  after : ∀ q, j < q → q ≤ i → ahead r (h j) (h q) = true
  less : ∀ p, a ≤ p → p ≤ i → p ≠ j → h p < f i
theorem InsOut.start {r f : Nat → Nat} {a b : Nat} (hf : ∀ i j, a ≤ i → i < j → j < b → f i < f j) : InsOut r f f a b (a + 1) :=
  ⟨Moved.refl _ _ _, fun _ _ => rfl, fun i j h1 h2 h3 => absurd h2 (by omega), fun p k h1 h2 h3 h4 => hf p k h1 (by omega) h4⟩
theorem InsOut.enter {r f g : Nat → Nat} {a b i : Nat} (h : InsOut r f g a b i) (hb : i < b) : InsAt r f g a b i i :=
  ⟨h.moved, fun k hk => h.rest k (by omega), h.rest i (Nat.le_refl _), fun p q h1 h2 h3 h4 h5 => h.sorted p q h1 h2 (by omega), fun q h1 h2 => absurd h1 (by omega), fun p h1 h2 h3 => h.less p i h1 (by omega) (Nat.le_refl _) hb⟩
theorem InsAt.test {r f h : Nat → Nat} {a b i j : Nat} (x : InsAt r f h a b i j) (hj : a < j) (hi : j ≤ i) : ahead r (h j) (h (j - 1)) = decide (r (h (j - 1)) < r (h j)) := by
  refine ahead_late ?_
  rw [x.here]
  exact x.less (j - 1) (by omega) (by omega) (by omega)
theorem InsAt.swap {r f h : Nat → Nat} {a b i j : Nat} (x : InsAt r f h a b i j) (hj : a < j) (hi : j ≤ i) (hb : i < b) (ht : r (h (j - 1)) < r (h j)) : InsAt r f (swpF h j (j - 1)) a b i (j - 1) := by
  have ha : ahead r (h j) (h (j - 1)) = true := by rw [x.test hj hi]; exact decide_eq_true ht
  have e0 : swpF h j (j - 1) j = h (j - 1) := by unfold swpF; rw [if_pos rfl]
  have e1 : swpF h j (j - 1) (j - 1) = h j := by unfold swpF; rw [if_neg (by omega), if_pos rfl]
  have e2 : ∀ k, k ≠ j → k ≠ j - 1 → swpF h j (j - 1) k = h k := fun k h1 h2 => by unfold swpF; rw [if_neg h1, if_neg h2]
  refine ⟨x.moved.trans (swpF_moved h (by omega) (by omega)), fun k hk => ?_, ?_, fun p q h1 h2 h3 h4 h5 => ?_, fun q h1 h2 => ?_, fun p h1 h2 h3 => ?_⟩
  · rw [e2 k (by omega) (by omega)]; exact x.rest k hk
  · rw [e1]; exact x.here
  · by_cases c1 : p = j
    · subst c1
      rw [e0, e2 q (by omega) h5]
      exact x.pairs _ _ (by omega) (by omega) h3 (by omega) (by omega)
    · by_cases c2 : q = j
      · subst c2
        rw [e0, e2 p c1 h4]
        exact x.pairs _ _ h1 (by omega) (by omega) c1 (by omega)
      · rw [e2 p c1 h4, e2 q c2 h5]
        exact x.pairs _ _ h1 h2 h3 c1 c2
  · rw [e1]
    by_cases c1 : q = j
    · subst c1
      rw [e0]; exact ha
    · rw [e2 q c1 (by omega)]
      exact x.after q (by omega) h2
  · by_cases c1 : p = j
    · subst c1
      rw [e0]
      exact x.less _ (by omega) (by omega) (by omega)
    · rw [e2 p c1 h3]
      exact x.less p h1 h2 c1
theorem InsAt.stop {r f h : Nat → Nat} {a b i j : Nat} (x : InsAt r f h a b i j) (hj : a ≤ j) (hi : j ≤ i) (hf : ∀ i j, a ≤ i → i < j → j < b → f i < f j) (ht : j = a ∨ ¬ r (h (j - 1)) < r (h j)) : InsOut r f h a b (i + 1) := by
  have hlow : ∀ p, a ≤ p → p < j → ahead r (h p) (h j) = true := fun p h1 h2 => by
    rcases ht with ht | ht
    · omega
    · have h3 : ahead r (h (j - 1)) (h j) = true := by
        refine ahead_other ?_ ?_
        · have := x.less (j - 1) (by omega) (by omega) (by omega)
          rw [x.here]; omega
        · rw [x.test (by omega) hi, decide_eq_false ht]
      by_cases e : p = j - 1
      · rw [e]; exact h3
      · exact ahead_trans (x.pairs p (j - 1) h1 (by omega) (by omega) (by omega) (by omega)) h3
  refine ⟨x.moved, fun k hk => x.rest k (by omega), fun p q h1 h2 h3 => ?_, fun p k h1 h2 h3 h4 => ?_⟩
  · by_cases c1 : p = j
    · subst c1; exact x.after q h2 (by omega)
    · by_cases c2 : q = j
      · subst c2; exact hlow p h1 h2
      · exact x.pairs p q h1 h2 (by omega) c1 c2
  · have h5 := hf i k (by omega) (by omega) h4
    by_cases c1 : p = j
    · subst c1; rw [x.here]; exact h5
    · have := x.less p h1 (by omega) c1; omega
theorem rot_skip (a m b x : Nat) (h1 : a ≤ m) (h2 : m ≤ b) (h : a = m ∨ m = b) : rotS a m b x = x := by
  rcases rotS_cases a m b x with p | p | p <;> omega
theorem MergeCut.made {r f : Nat → Nat} {a m b mid lo hi s : Nat} (h : Halves r f a m b) (h1 : a ≤ lo) (h2 : lo ≤ s) (h3 : s ≤ hi) (h4 : hi ≤ m) (h5 : hi ≤ mid) (h6 : mid + m ≤ b + lo) (h7 : lo = a ∨ mid + m = b + lo) (h8 : hi = m ∨ hi = mid)
    (l : s = lo ∨ ¬ r (f (s - 1)) < r (f (mid + m - s))) (u : s = hi ∨ r (f s) < r (f (mid + m - s - 1))) : MergeCut r f a m b mid s (mid + m - s) :=
  ⟨h, by omega, by omega, by omega, by
    rcases l with l | l
    · omega
    · exact .inr (.inr l), by
    rcases u with u | u
    · omega
    · exact .inr (.inr u)⟩
end Go.Proofs.Ytnjegnmkabnkkaa
