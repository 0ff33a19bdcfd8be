/- What Compare of the package exact and of its reference returns, for every input: the order of two fractions. No condition. -/
import Derived.Test.YtmoagnlkpkgflaaHas
import Derived.Test.YtmoagnlkpkgflaaGcd
namespace Go.Proofs.Ytmoagnlkpkgflaa
open Go.RowKit

theorem max_den (n : Nat) : max (n : Int) 1 = (den n : Int) := by
  unfold den
  split <;> omega
/-- The order of two fractions. -/
def cmpF (a b c d : Nat) : Int := cmpN (a * den d) (c * den b)
theorem cmpN_bounds (x y : Nat) : -1 ≤ cmpN x y ∧ cmpN x y ≤ 1 := by
  unfold cmpN
  split
  · omega
  · split <;> omega
theorem cmpN_neg (x y : Nat) : cmpN y x = -cmpN x y := by
  rcases Nat.lt_trichotomy x y with h | h | h
  · rw [cmpN_lt h, cmpN_gt h]; rfl
  · rw [cmpN_eq h, cmpN_eq h.symm]; rfl
  · rw [cmpN_gt h, cmpN_lt h]
theorem cmpF_neg (a b c d : Nat) : cmpF c d a b = -cmpF a b c d := cmpN_neg _ _
theorem cmpN_le {x y : Nat} : cmpN x y ≤ 0 ↔ x ≤ y := by
  rcases Nat.lt_trichotomy x y with h | h | h
  · rw [cmpN_lt h]; omega
  · rw [cmpN_eq h]; omega
  · rw [cmpN_gt h]; omega
theorem cmpF_trans (a b c d p q : Nat) (h1 : cmpF a b c d ≤ 0) (h2 : cmpF c d p q ≤ 0) : cmpF a b p q ≤ 0 := by
  unfold cmpF at *
  rw [cmpN_le] at *
  have hd := den_pos d
  have h3 : a * den d * den q ≤ c * den b * den q := Nat.mul_le_mul_right _ h1
  have h4 : c * den q * den b ≤ p * den d * den b := Nat.mul_le_mul_right _ h2
  rw [Nat.mul_right_comm] at h3
  rw [Nat.mul_right_comm] at h4
  have h5 : a * den q * den d ≤ p * den b * den d := by
    rw [Nat.mul_right_comm p]
    exact Nat.le_trans h3 h4
  exact Nat.le_of_mul_le_mul_right h5 hd

theorem cmp_words (a b c d : Nat) (w : World) :
    Calls Try.prog 17 #[.agg #[.int .u64 (hiN a (den d)), .int .u64 (loN a (den d))], .agg #[.int .u64 (hiN c (den b)), .int .u64 (loN c (den b))]] w fun e w' =>
      e = .returned (.int .i64 (cmpF a b c d)) ∧ Below w.heap.size w w' := by
  have h := wide_any (hiN a (den d)) (loN a (den d)) (hiN c (den b)) (loN c (den b)) w
  rw [cmpW_num _ _ _ _ (loN_lt _ _) (loN_lt _ _), hilo, hilo] at h
  exact h
theorem ord_words (a b c d : Nat) (w : World) :
    Calls Try.prog 18 #[.agg #[.int .u64 (hiN a (den d)), .int .u64 (loN a (den d))], .agg #[.int .u64 (hiN c (den b)), .int .u64 (loN c (den b))]] w fun e w' =>
      e = .returned (.int .i64 (cmpF a b c d)) ∧ Below w.heap.size w w' := by
  have h := refOrder_any (hiN a (den d)) (loN a (den d)) (hiN c (den b)) (loN c (den b)) w
  rw [← cmpW_ordW, cmpW_num _ _ _ _ (loN_lt _ _) (loN_lt _ _), hilo, hilo] at h
  exact h

set_option maxHeartbeats 400000 in
theorem compare_any (a b c d : Nat) (h1 : a < 18446744073709551616) (h2 : b < 18446744073709551616) (h3 : c < 18446744073709551616) (h4 : d < 18446744073709551616) (w : World) :
    Calls Try.prog 25 #[.int .u64 a, .int .u64 b, .int .u64 c, .int .u64 d] w fun e w' => e = .returned (.int .i64 (cmpF a b c d)) ∧ Below w.heap.size w w' := by
  have hx := mul_any a (den d) h1 (den_lt d h4)
  have hy := mul_any c (den b) h3 (den_lt b h2)
  have hc := cmp_words a b c d
  have hd := den_any d
  have he := den_any b
  generalize cmpF a b c d = n at *
  generalize hiN a (den d) = p at *
  generalize loN a (den d) = q at *
  generalize hiN c (den b) = r at *
  generalize loN c (den b) = s at *
  generalize den d = x at *
  generalize den b = y at *
  have HX := Lib.hid hx
  have HY := Lib.hid hy
  have HC := Lib.hid hc
  have HD := Lib.hid hd
  have HE := Lib.hid he
  clear hx hy hc hd he
  go_enter Try.func25, Try.ntmps25
  go_wp2_with fail
  refine (HD.out _).mono ?_
  rintro e w0 ⟨rfl, rfl⟩
  go_wp2_with fail
  refine (HX.out _).mono ?_
  rintro e w1 ⟨rfl, hb1⟩
  have hz1 := hb1.size
  go_wp2_with fail
  refine (HE.out _).mono ?_
  rintro e w0 ⟨rfl, rfl⟩
  go_wp2_with fail
  refine (HY.out _).mono ?_
  rintro e w2 ⟨rfl, hb2⟩
  have hz2 := hb2.size
  go_wp2_with fail
  refine (HC.out _).mono ?_
  rintro e w3 ⟨rfl, hb3⟩
  go_wp2_with fail
  go_ret
  exact ⟨rfl, by repeat (first | exact Below.refl _ _ | (refine Below.setCell ?_ (by first | omega | (simp; done) | (simp; omega)) _) | (refine below_drewN ?_ _) | (refine Below.alloc ?_ (by first | omega | (simp; done) | (simp; omega)) _) | (refine Below.trans ?_ (Below.mono (by assumption) (by first | omega | (simp; done) | (simp; omega)))))⟩

set_option maxHeartbeats 400000 in
theorem refCompare_any (a b c d : Nat) (h1 : a < 18446744073709551616) (h2 : b < 18446744073709551616) (h3 : c < 18446744073709551616) (h4 : d < 18446744073709551616) (w : World) :
    Calls Try.prog 26 #[.int .u64 a, .int .u64 b, .int .u64 c, .int .u64 d] w fun e w' => e = .returned (.int .i64 (cmpF a b c d)) ∧ Below w.heap.size w w' := by
  have hx := refMul_any a (den d) h1 (den_lt d h4)
  have hy := refMul_any c (den b) h3 (den_lt b h2)
  have hc := ord_words a b c d
  generalize cmpF a b c d = n at *
  generalize hiN a (den d) = p at *
  generalize loN a (den d) = q at *
  generalize hiN c (den b) = r at *
  generalize loN c (den b) = s at *
  have ed := max_den d
  have eb := max_den b
  generalize den d = x at *
  generalize den b = y at *
  have HX := Lib.hid hx
  have HY := Lib.hid hy
  have HC := Lib.hid hc
  clear hx hy hc
  go_enter Try.func26, Try.ntmps26
  go_wp2_with fail
  refine (HX.out _).mono ?_
  rintro e w1 ⟨rfl, hb1⟩
  have hz1 := hb1.size
  go_wp2_with fail
  refine (HY.out _).mono ?_
  rintro e w2 ⟨rfl, hb2⟩
  have hz2 := hb2.size
  go_wp2_with fail
  refine (HC.out _).mono ?_
  rintro e w3 ⟨rfl, hb3⟩
  go_wp2_with fail
  go_ret
  exact ⟨rfl, by repeat (first | exact Below.refl _ _ | (refine Below.setCell ?_ (by first | omega | (simp; done) | (simp; omega)) _) | (refine below_drewN ?_ _) | (refine Below.alloc ?_ (by first | omega | (simp; done) | (simp; omega)) _) | (refine Below.trans ?_ (Below.mono (by assumption) (by first | omega | (simp; done) | (simp; omega)))))⟩
end Go.Proofs.Ytmoagnlkpkgflaa
