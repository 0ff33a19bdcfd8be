/- Plain facts of layer 5: a scaled amount is monotone, keeps its sign, and a rate by itself keeps the amount. No condition. -/
import Derived.Test.YtjjidbnjkhdkaaaCurCross
import Derived.Test.YtjjidbnjkhdkaaaWithin
namespace Go.Proofs.Ytjjidbnjkhdkaaa
open Go.RowKit

theorem upN_zero (q c : Nat) (m : Int) (hc : 0 < c) : upN q 0 c m = false := by
  unfold upN
  split
  · rfl
  · split
    · exact decide_eq_false (by omega)
    · split
      · rw [show decide (c < 0 + 0) = false from decide_eq_false (by omega), show decide (0 + 0 = c) = false from decide_eq_false (by omega)]
        rfl
      · rfl
theorem upN_mono (q r s c : Nat) (m : Int) (h : r ≤ s) (hu : upN q r c m = true) : upN q s c m = true := by
  unfold upN at *
  split
  · rw [if_pos (by assumption)] at hu
    have := of_decide_eq_true hu
    exact decide_eq_true (by omega)
  · rename_i h1
    rw [if_neg h1] at hu
    split
    · rw [if_pos (by assumption)] at hu
      have := of_decide_eq_true hu
      exact decide_eq_true (by omega)
    · rename_i h2
      rw [if_neg h2] at hu
      split
      · rw [if_pos (by assumption)] at hu
        rw [Bool.or_eq_true, Bool.and_eq_true] at hu ⊢
        simp only [decide_eq_true_eq] at hu ⊢
        omega
      · rename_i h3
        rw [if_neg h3] at hu
        cases hu
theorem divUp_mono (a b c : Nat) (m : Int) (h : a ≤ b) : divUp a c m ≤ divUp b c m := by
  have h1 : a / c ≤ b / c := Nat.div_le_div_right h
  unfold divUp
  by_cases e : a / c = b / c
  · rw [e]
    by_cases hu : upN (b / c) (a % c) c m = true
    · have hr : a % c ≤ b % c := by
        have h2 := Nat.div_add_mod a c
        have h3 := Nat.div_add_mod b c
        rw [e] at h2
        omega
      rw [if_pos hu, if_pos (upN_mono _ _ _ _ _ hr hu)]
      exact Nat.le_refl _
    · rw [if_neg hu]
      omega
  · have : a / c + 1 ≤ b / c := by omega
    split <;> split <;> omega
theorem md_ok {a b c : Nat} {m : Int} (h : mdE a b c m = 0) : mdV a b c m = divUp (a * b) c m := by
  have h' : divE (a * b) c m = 0 := h
  show divV (a * b) c m = _
  unfold divE at h'
  unfold divV
  by_cases h1 : c = 0 ∨ m < 0 ∨ 3 < m
  · rw [if_pos h1] at h'; omega
  · rw [if_neg h1] at h' ⊢
    by_cases h2 : 18446744073709551616 ≤ divUp (a * b) c m
    · rw [if_pos h2] at h'; omega
    · rw [if_neg h2]
theorem sc_ok {a n d m : Int} (h : scE a n d m = 0) : ¬ scBad a n d m ∧ scF a n d m = 0 ∧ scQ a n d m = divUp (a.natAbs * n.toNat) d.toNat m ∧ scV a n d m = if a < 0 then -(scQ a n d m : Int) else scQ a n d m := by
  unfold scE at h
  by_cases h1 : scBad a n d m
  · rw [if_pos h1] at h; omega
  · rw [if_neg h1] at h
    by_cases h2 : scF a n d m ≠ 0 ∨ 1000000000000 < scQ a n d m
    · rw [if_pos h2] at h; omega
    · have h3 : scF a n d m = 0 := by omega
      exact ⟨h1, h3, md_ok h3, (if_neg h1).trans (if_neg h2)⟩
theorem scV_mono {a b n d m : Int} (hab : a ≤ b) (h1 : scE a n d m = 0) (h2 : scE b n d m = 0) : scV a n d m ≤ scV b n d m := by
  obtain ⟨_, _, q1, v1⟩ := sc_ok h1
  obtain ⟨_, _, q2, v2⟩ := sc_ok h2
  rw [v1, v2]
  by_cases ha : a < 0
  · rw [if_pos ha]
    by_cases hb : b < 0
    · rw [if_pos hb]
      have := divUp_mono (b.natAbs * n.toNat) (a.natAbs * n.toNat) d.toNat m (Nat.mul_le_mul_right _ (by omega))
      omega
    · rw [if_neg hb]; omega
  · rw [if_neg ha, if_neg (by omega)]
    have := divUp_mono (a.natAbs * n.toNat) (b.natAbs * n.toNat) d.toNat m (Nat.mul_le_mul_right _ (by omega))
    omega
theorem amtB_neg (a : Int) : amtB (-a) = amtB a := by
  rw [Bool.eq_iff_iff, amtB_iff, amtB_iff]
  omega
theorem sc_neg_same (a n d m : Int) : scE (-a) n d m = scE a n d m ∧ scV (-a) n d m = -scV a n d m := by
  have hQ : scQ (-a) n d m = scQ a n d m := by unfold scQ; rw [Int.natAbs_neg]
  have hF : scF (-a) n d m = scF a n d m := by unfold scF; rw [Int.natAbs_neg]
  have hB : scBad (-a) n d m ↔ scBad a n d m := by unfold scBad; rw [amtB_neg]
  by_cases h1 : scBad a n d m
  · rw [(sc_bad h1).1, (sc_bad h1).2, (sc_bad (hB.2 h1)).1, (sc_bad (hB.2 h1)).2]
    exact ⟨rfl, rfl⟩
  · have h1' : ¬ scBad (-a) n d m := fun h => h1 (hB.1 h)
    by_cases h2 : scF a n d m ≠ 0 ∨ 1000000000000 < scQ a n d m
    · have h2' : scF (-a) n d m ≠ 0 ∨ 1000000000000 < scQ (-a) n d m := by rw [hQ, hF]; exact h2
      rw [(sc_big h1 h2).1, (sc_big h1 h2).2, (sc_big h1' h2').1, (sc_big h1' h2').2]
      exact ⟨rfl, rfl⟩
    · have h2' : ¬ (scF (-a) n d m ≠ 0 ∨ 1000000000000 < scQ (-a) n d m) := by rw [hQ, hF]; exact h2
      by_cases h3 : a < 0
      · rw [(sc_neg h1 h2 h3).1, (sc_neg h1 h2 h3).2, (sc_pos h1' h2' (by omega)).1, (sc_pos h1' h2' (by omega)).2, hQ]
        exact ⟨rfl, by omega⟩
      · by_cases h4 : a = 0
        · subst h4
          have hq : scQ 0 n d m = 0 := by
            have h5 : scF 0 n d m = 0 := by omega
            have h6 : scQ 0 n d m = divUp (Int.natAbs 0 * n.toNat) d.toNat m := md_ok h5
            rw [h6]
            have hd : 0 < d.toNat := by unfold scBad at h1; omega
            show divUp (0 * n.toNat) d.toNat m = 0
            rw [Nat.zero_mul]
            unfold divUp
            rw [Nat.zero_div, Nat.zero_mod, upN_zero _ _ _ hd]
            rfl
          rw [show (-0 : Int) = 0 from rfl, (sc_pos h1 h2 h3).1, (sc_pos h1 h2 h3).2, hq]
          exact ⟨rfl, rfl⟩
        · rw [(sc_pos h1 h2 h3).1, (sc_pos h1 h2 h3).2, (sc_neg h1' h2' (by omega)).1, (sc_neg h1' h2' (by omega)).2, hQ]
          exact ⟨rfl, rfl⟩
theorem sc_self (a r m : Int) (h1 : -1000000000000 ≤ a) (h2 : a ≤ 1000000000000) (h3 : 1 ≤ r) (h4 : r ≤ 1000000000) (h5 : 0 ≤ m) (h6 : m ≤ 3) : scE a r r m = 0 ∧ scV a r r m = a := by
  have hd : 0 < r.toNat := by omega
  have hu : divUp (a.natAbs * r.toNat) r.toNat m = a.natAbs := by
    unfold divUp
    rw [Nat.mul_div_cancel _ hd, Nat.mul_mod_left, upN_zero _ _ _ hd]
    rfl
  obtain ⟨f1, f2⟩ := div_fits (a.natAbs * r.toNat) r.toNat m (by omega) (by rw [hu]; omega)
  have g1 : scQ a r r m = a.natAbs := f1.trans hu
  have g2 : scF a r r m = 0 := f2
  have hb : ¬ scBad a r r m := by
    unfold scBad
    have := (amtB_iff a).2 ⟨h1, h2⟩
    rintro (hx | hx)
    · rw [this] at hx; cases hx
    · omega
  have hn : ¬ (scF a r r m ≠ 0 ∨ 1000000000000 < scQ a r r m) := by rw [g1, g2]; omega
  by_cases ha : a < 0
  · rw [(sc_neg hb hn ha).1, (sc_neg hb hn ha).2, g1]
    exact ⟨rfl, by omega⟩
  · rw [(sc_pos hb hn ha).1, (sc_pos hb hn ha).2, g1]
    exact ⟨rfl, by omega⟩

theorem cr_mono {S : Nat → ByteArray} {F R : Nat → Int} {n : Nat} {x y : ByteArray} {a b day m : Int} (hab : a ≤ b) (h1 : crE S F R n x y a day m = 0) (h2 : crE S F R n x y b day m = 0) : crV S F R n x y a day m ≤ crV S F R n x y b day m := by
  unfold crE at h1 h2
  unfold crV
  by_cases e1 : atE S F R n x day ≠ 0
  · rw [if_pos e1] at h1; exact absurd h1 e1
  · rw [if_neg e1] at h1 h2 ⊢
    by_cases e2 : atE S F R n y day ≠ 0
    · rw [if_pos e2] at h1; exact absurd h1 e2
    · rw [if_neg e2] at h1 h2 ⊢
      rw [if_neg e1, if_neg e2]
      exact scV_mono hab h1 h2
theorem cr_neg (S : Nat → ByteArray) (F R : Nat → Int) (n : Nat) (x y : ByteArray) (a day m : Int) : crE S F R n x y (-a) day m = crE S F R n x y a day m ∧ crV S F R n x y (-a) day m = -crV S F R n x y a day m := by
  unfold crE crV
  by_cases e1 : atE S F R n x day ≠ 0
  · rw [if_pos e1, if_pos e1, if_pos e1, if_pos e1]; exact ⟨rfl, rfl⟩
  · rw [if_neg e1, if_neg e1, if_neg e1, if_neg e1]
    by_cases e2 : atE S F R n y day ≠ 0
    · rw [if_pos e2, if_pos e2, if_pos e2, if_pos e2]; exact ⟨rfl, rfl⟩
    · rw [if_neg e2, if_neg e2, if_neg e2, if_neg e2]
      exact sc_neg_same _ _ _ _
theorem cr_self {S : Nat → ByteArray} {F R : Nat → Int} {n : Nat} {x : ByteArray} {a day m : Int} (h : atE S F R n x day = 0) (h1 : -1000000000000 ≤ a) (h2 : a ≤ 1000000000000) (h5 : 0 ≤ m) (h6 : m ≤ 3) : crE S F R n x x a day m = 0 ∧ crV S F R n x x a day m = a := by
  obtain ⟨b1, b2⟩ := at_bounds h
  unfold crE crV
  rw [if_neg (by omega), if_neg (by omega), if_neg (by omega), if_neg (by omega)]
  exact sc_self _ _ _ h1 h2 b1 b2 h5 h6
theorem at_own {S : Nat → ByteArray} {F R : Nat → Int} {n : Nat} {day : Int} (h : tabE S F R n = 0) (hd : dayB day = true) : atE S F R n ownC day = 0 := by
  unfold atE
  rw [if_neg (by omega), if_neg (by rw [hd]; decide), if_pos (by decide +kernel)]
theorem two_bits (m : Int) : 0 ≤ bits .and .i64 m 3 ∧ bits .and .i64 m 3 ≤ 3 := by
  have h : (BitVec.ofInt 64 m &&& BitVec.ofInt 64 3).toNat ≤ 3 := by
    rw [BitVec.toNat_and]
    exact Nat.le_trans Nat.and_le_right (by decide)
  have e : bits .and .i64 m 3 = IntKind.i64.wrap ((BitVec.ofInt 64 m &&& BitVec.ofInt 64 3).toNat : Int) := rfl
  rw [e, IntKind.wrap_i64]
  omega
theorem tmod_bounds (x n : Int) (hn : 0 < n) : -n < x.tmod n ∧ x.tmod n < n := ⟨(within_arith x n hn).2.1, (within_arith x n hn).2.2⟩
end Go.Proofs.Ytjjidbnjkhdkaaa
