/- Plain facts on a sort that merges blocks, twice as long from pass to pass. No program in this text. No condition. -/
import Derived.Test.YtnjegnmkabnkkaaSortPlain
namespace Go.Proofs.Ytnjegnmkabnkkaa

/-- Blocks of bs numbers: each sorted, each holding its own numbers. -/
structure Even (r f : Nat → Nat) (n bs : Nat) : Prop where
  vals : ∀ i, i < n → f i / bs = i / bs
  sorted : ∀ i j, i < j → j < n → i / bs = j / bs → ahead r (f i) (f j) = true
/-- In the midst of a pass: below a blocks of big, from a on blocks of bs. -/
structure Runs (r f : Nat → Nat) (n bs a big : Nat) : Prop where
  lowVals : ∀ i, i < n → i < a → f i / big = i / big
  highVals : ∀ i, i < n → a ≤ i → f i / bs = i / bs
  lowSorted : ∀ i j, i < j → j < n → j < a → i / big = j / big → ahead r (f i) (f j) = true
  highSorted : ∀ i j, a ≤ i → i < j → j < n → i / bs = j / bs → ahead r (f i) (f j) = true
theorem Even.start {r f : Nat → Nat} {n bs : Nat} (h : Even r f n bs) (big : Nat) : Runs r f n bs 0 big :=
  ⟨fun i _ h2 => absurd h2 (by omega), fun i h1 _ => h.vals i h1, fun i j _ _ h3 => absurd h3 (by omega), fun i j _ h2 h3 h4 => h.sorted i j h2 h3 h4⟩
theorem Even.one (r : Nat → Nat) (n : Nat) : Even r (fun i => i) n 1 := ⟨fun _ _ => rfl, fun i j h1 _ h3 => absurd h3 (by rw [Nat.div_one, Nat.div_one]; omega)⟩
theorem Runs.done {r f : Nat → Nat} {n bs a big : Nat} (h : Runs r f n bs a big) (ha : n ≤ a) : Even r f n big :=
  ⟨fun i h1 => h.lowVals i h1 (by omega), fun i j h1 h2 h3 => h.lowSorted i j h1 h2 (by omega) h3⟩
theorem blk {bs a i : Nat} (hd : bs ∣ a) (h1 : a ≤ i) (h2 : i < a + bs) : i / bs = a / bs := by
  obtain ⟨q, rfl⟩ := hd
  have hp : 0 < bs := by omega
  rw [Nat.mul_div_cancel_left q hp]
  refine Nat.div_eq_of_lt_le (by rw [Nat.mul_comm]; exact h1) ?_
  rw [Nat.succ_mul, Nat.mul_comm q bs]; exact h2
theorem blk_inv {bs a i : Nat} (hp : 0 < bs) (hd : bs ∣ a) (h : i / bs = a / bs) : a ≤ i ∧ i < a + bs := by
  obtain ⟨q, rfl⟩ := hd
  rw [Nat.mul_div_cancel_left q hp] at h
  have h1 := Nat.div_add_mod i bs
  have h2 := Nat.mod_lt i hp
  rw [h] at h1
  omega
/-- The block from a on has been sorted. -/
theorem Runs.step {r f g : Nat → Nat} {n bs a big b c : Nat} (h : Runs r f n bs a big) (hp : 0 < big) (hc : big = bs * c) (hd : big ∣ a) (hb1 : b ≤ n) (hb : b = a + big ∨ (b = n ∧ n ≤ a + big)) (hm : Moved a b f g) (hs : SortedOn r g a b) : Runs r g n bs (a + big) big := by
  have big_of : ∀ x y, x / bs = y / bs → x / big = y / big := fun x y e => by rw [hc, ← Nat.div_div_eq_div_mul, ← Nat.div_div_eq_div_mul, e]
  refine ⟨fun i h1 h2 => ?_, fun i h1 h2 => ?_, fun i j h1 h2 h3 h4 => ?_, fun i j h1 h2 h3 h4 => ?_⟩
  · by_cases e : i < a
    · rw [hm.out i (.inl e)]; exact h.lowVals i h1 e
    · obtain ⟨k, k1, k2, k3⟩ := hm.in_ i (by omega) (by omega)
      rw [k3, big_of _ _ (h.highVals k (by omega) k1), blk hd k1 (by omega), blk hd (by omega) h2]
  · rw [hm.out i (.inr (by omega))]; exact h.highVals i h1 (by omega)
  · by_cases e : j < a
    · rw [hm.out i (.inl (by omega)), hm.out j (.inl e)]; exact h.lowSorted i j h1 h2 e h4
    · rw [blk hd (show a ≤ j by omega) h3] at h4
      have := blk_inv hp hd h4
      exact hs i j this.1 h1 (by omega)
  · rw [hm.out i (.inr (by omega)), hm.out j (.inr (by omega))]; exact h.highSorted i j (by omega) h2 h3 h4
/-- What is left at the end of a pass is sorted where it is no more than one block. -/
theorem Runs.short {r f : Nat → Nat} {n bs a big : Nat} (h : Runs r f n bs a big) (hd : bs ∣ a) (hn : n ≤ a + bs) : SortedOn r f a n := fun i j h1 h2 h3 =>
  h.highSorted i j h1 h2 h3 (by rw [blk hd h1 (by omega), blk hd (show a ≤ j by omega) (by omega)])
/-- Two neighbouring blocks. -/
theorem Runs.halves {r f : Nat → Nat} {n bs a big b : Nat} (h : Runs r f n bs a big) (hp : 0 < bs) (hd : bs ∣ a) (h1 : b ≤ n) (hs : a + bs ≤ b) (h2 : b ≤ a + bs + bs) : Halves r f a (a + bs) b := by
  have hd2 : bs ∣ a + bs := Nat.dvd_add hd (Nat.dvd_refl bs)
  have hq : (a + bs) / bs = a / bs + 1 := Nat.add_div_right a hp
  refine ⟨fun i j i1 i2 i3 => ?_, fun i j i1 i2 i3 => ?_, fun i j i1 i2 i3 i4 => ?_⟩
  · exact h.highSorted i j i1 i2 (by omega) (by rw [blk hd i1 (by omega), blk hd (show a ≤ j by omega) (by omega)])
  · exact h.highSorted i j (by omega) i2 (by omega) (by rw [blk hd2 i1 (by omega), blk hd2 (show a + bs ≤ j by omega) (by omega)])
  · have e1 := h.highVals i (by omega) i1
    have e2 := h.highVals j (by omega) (by omega)
    rw [blk hd i1 i2] at e1
    rw [blk hd2 i3 (by omega), hq] at e2
    by_cases hlt : f i < f j
    · exact hlt
    · have := Nat.div_le_div_right (c := bs) (show f j ≤ f i by omega)
      omega
theorem Even.whole {r f : Nat → Nat} {n bs : Nat} (h : Even r f n bs) (hn : n ≤ bs) : SortedOn r f 0 n := fun i j _ h2 h3 =>
  h.sorted i j h2 h3 (by rw [Nat.div_eq_of_lt (by omega), Nat.div_eq_of_lt (by omega)])

/-- Is i among the first k numbers of the row? -/
def among (d : Nat → Nat) : Nat → Nat → Bool
  | 0, _ => false
  | k + 1, i => among d k i || i == d k
theorem among_iff (d : Nat → Nat) (i : Nat) : ∀ k, among d k i = true ↔ ∃ p, p < k ∧ i = d p
  | 0 => ⟨fun h => (by cases h), fun ⟨p, hp, _⟩ => absurd hp (by omega)⟩
  | k + 1 => by
    show (among d k i || i == d k) = true ↔ _
    rw [Bool.or_eq_true, beq_iff_eq, among_iff d i k]
    constructor
    · rintro (⟨p, hp, e⟩ | e)
      · exact ⟨p, by omega, e⟩
      · exact ⟨k, by omega, e⟩
    · rintro ⟨p, hp, e⟩
      by_cases h : p = k
      · subst h; exact .inr e
      · exact .inl ⟨p, by omega, e⟩
theorem among_count {d : Nat → Nat} {n : Nat} (hv : ∀ i, i < n → d i < n) (hi : ∀ i j, i < n → j < n → d i = d j → i = j) : ∀ k, k ≤ n → cntN (among d k) n = k
  | 0, _ => cnt_none n (fun _ _ => rfl)
  | k + 1, hk => by
    have h0 : among d k (d k) = false := by
      cases h : among d k (d k) with
      | false => rfl
      | true =>
        obtain ⟨p, p1, p2⟩ := (among_iff d (d k) k).1 h
        have := hi k p (by omega) (by omega) p2
        omega
    show cntN (fun i => among d k i || i == d k) n = k + 1
    rw [cnt_add h0 n (hv k (by omega)), among_count hv hi k (by omega)]
/-- The first k numbers of a row that is sorted are those of rank below k. -/
theorem among_rank {r d : Nat → Nat} {n : Nat} (hv : ∀ i, i < n → d i < n) (hi : ∀ i j, i < n → j < n → d i = d j → i = j) (hs : SortedOn r d 0 n) (k : Nat) (hk : k ≤ n) (i : Nat) (hin : i < n) : among d k i = decide (rankN r n i < k) := by
  have hu : UpTo r n (among d k) := fun i j h1 h2 h3 h4 => by
    obtain ⟨p, p1, rfl⟩ := (among_iff d i k).1 h3
    have hall := among_count hv hi n (Nat.le_refl n)
    cases hj : among d n j with
    | false =>
      have := cnt_lt (p := among d n) (q := fun _ => true) hj rfl n h2 (fun _ _ _ => rfl)
      rw [hall, cnt_all n (fun _ _ => rfl)] at this
      omega
    | true =>
      obtain ⟨q, q1, rfl⟩ := (among_iff d j n).1 hj
      refine (among_iff d _ k).2 ⟨q, ?_, rfl⟩
      by_cases hpq : p < q
      · have h5 := hs p q (Nat.zero_le _) hpq q1
        rw [ahead_iff] at h4 h5
        omega
      · omega
  have h1 := taken_rank hu i hin
  rw [among_count hv hi k hk] at h1
  exact h1
theorem moved_vals {n : Nat} {d : Nat → Nat} (h : Moved 0 n (fun i => i) d) (i : Nat) (hi : i < n) : d i < n := by
  obtain ⟨p, _, p2, p3⟩ := h.in_ i (Nat.zero_le _) hi
  rw [p3]; exact p2
theorem moved_inj {n : Nat} {d : Nat → Nat} (h : Moved 0 n (fun i => i) d) (i j : Nat) (e : d i = d j) : i = j := by
  obtain ⟨s, s1, _, _, s4⟩ := h
  rw [s1, s1] at e
  exact s4 i j e
end Go.Proofs.Ytnjegnmkabnkkaa
