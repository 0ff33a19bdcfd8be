/- The law ExactGcd, walked: it returns true at every input. No condition. -/
import Derived.Test.YtmoagnlkpkgflaaCompare
import Derived.Test.YtmoagnlkpkgflaaAwake
namespace Go.Proofs.Ytmoagnlkpkgflaa
open Go.RowKit

/-- A fraction in lowest terms is the fraction. -/
theorem reduce_eq (a b : Nat) : cmpF (redN a b) (redD a b) a b = 0 := by
  have hp := gN_pos a b
  have h1 : gN a (den b) ∣ a := Nat.gcd_dvd_left _ _
  have h2 : gN a (den b) ∣ den b := Nat.gcd_dvd_right _ _
  have hd : redD a b ≠ 0 := by
    unfold redD
    exact Nat.ne_of_gt (Nat.div_pos (Nat.le_of_dvd (den_pos b) h2) hp)
  unfold cmpF
  have e : den (redD a b) = redD a b := if_neg hd
  rw [e]
  refine cmpN_eq ?_
  unfold redN redD
  generalize den b = y at *
  generalize gN a y = g at *
  obtain ⟨s, rfl⟩ := h1
  obtain ⟨t, rfl⟩ := h2
  rw [Nat.mul_div_cancel_left _ hp, Nat.mul_div_cancel_left _ hp, Nat.mul_comm g s, Nat.mul_assoc]
theorem reduce_one (a b : Nat) : gN (redN a b) (redD a b) = 1 := by
  have h := Nat.gcd_div (k := gN a (den b)) (m := a) (n := den b) (Nat.gcd_dvd_left _ _) (Nat.gcd_dvd_right _ _)
  exact h.trans (Nat.div_self (gN_pos a b))
theorem redN_lt (a b : Nat) (ha : a < 18446744073709551616) : redN a b < 18446744073709551616 := Nat.lt_of_le_of_lt (Nat.div_le_self _ _) ha
theorem redD_lt (a b : Nat) (hb : b < 18446744073709551616) : redD a b < 18446744073709551616 := Nat.lt_of_le_of_lt (Nat.div_le_self _ _) (den_lt b hb)
theorem gN_mul (k a b : Nat) : gN (k * a) (k * b) = k * gN a b := Nat.gcd_mul_left _ _ _
theorem gN_small (a b n : Nat) (ha : a < n) (hb : b < n) : gN a b < n := by
  unfold gN
  rcases Nat.eq_zero_or_pos b with h | h
  · rw [h, Nat.gcd_zero_right]; exact ha
  · exact Nat.lt_of_le_of_lt (Nat.gcd_le_right _ h) hb

set_option maxHeartbeats 800000 in
theorem exactGcd_walk (a b k : Nat) (h1 : a < 18446744073709551616) (h2 : b < 18446744073709551616) (h3 : k < 18446744073709551616) (w : World) :
    Calls Try.prog 10 #[.int .u64 a, .int .u64 b, .int .u64 k] w fun e w' => e = .returned (.bool true) ∧ Below w.heap.size w w' := by
  have hg := gcd_any a b h1 h2
  have hr := reduce_any a b h1 h2
  have hq := refReduce_any a b h1 h2
  have hf := refGcd_any a b h1 h2
  have hc := compare_any (redN a b) (redD a b) a b (redN_lt a b h1) (redD_lt a b h2) h1 h2
  rw [reduce_eq] at hc
  have ho := gcd_any (redN a b) (redD a b) (redN_lt a b h1) (redD_lt a b h2)
  rw [reduce_one] at ho
  generalize redN a b = n at *
  generalize redD a b = d at *
  generalize gN a b = g at *
  have e1 : (a : Int) / 4294967296 = ((a / 4294967296 : Nat) : Int) := by omega
  have e2 : (b : Int) / 4294967296 = ((b / 4294967296 : Nat) : Int) := by omega
  have e3 : (k : Int) / 4294967296 = ((k / 4294967296 : Nat) : Int) := by omega
  have l1 : a / 4294967296 < 4294967296 := by omega
  have l2 : b / 4294967296 < 4294967296 := by omega
  have l3 : k / 4294967296 < 4294967296 := by omega
  generalize a / 4294967296 = x at *
  generalize b / 4294967296 = y at *
  generalize k / 4294967296 = z at *
  have lg := gN_small x y 4294967296 l1 l2
  have p1 : z * x < 18446744073709551616 := Nat.lt_of_lt_of_le (Nat.mul_lt_mul'' l3 l1) (by decide)
  have p2 : z * y < 18446744073709551616 := Nat.lt_of_lt_of_le (Nat.mul_lt_mul'' l3 l2) (by decide)
  have p3 : z * gN x y < 18446744073709551616 := Nat.lt_of_lt_of_le (Nat.mul_lt_mul'' l3 lg) (by decide)
  have hs := gcd_any x y (by omega) (by omega)
  have ht := gcd_any (z * x) (z * y) p1 p2
  rw [gN_mul] at ht
  have e4 : (z : Int) * (x : Int) = ((z * x : Nat) : Int) := by simp
  have e5 : (z : Int) * (y : Int) = ((z * y : Nat) : Int) := by simp
  have e6 : (z : Int) * (gN x y : Int) = ((z * gN x y : Nat) : Int) := by simp
  generalize z * gN x y = v at *
  generalize gN x y = u at *
  generalize z * x = zx at *
  generalize z * y = zy at *
  have HG := Lib.hid hg
  have HR := Lib.hid hr
  have HQ := Lib.hid hq
  have HF := Lib.hid hf
  have HC := Lib.hid hc
  have HO := Lib.hid ho
  have HS := Lib.hid hs
  have HT := Lib.hid ht
  clear hg hr hq hf hc ho hs ht
  go_enter Try.func10, Try.ntmps10
  go_wp2_with fail
  refine (HG.out _).mono ?_
  rintro e w1 ⟨rfl, m1, rfl⟩
  go_wp2_with fail
  refine (HR.out _).mono ?_
  rintro e w2 ⟨rfl, m2, rfl⟩
  go_wp2_with fail
  refine (HQ.out _).mono ?_
  rintro e w3 ⟨rfl, m3, rfl⟩
  go_wp2_with fail
  refine (HF.out _).mono ?_
  rintro e w4 ⟨rfl, m4, rfl⟩
  go_wp2_with fail
  refine (HC.out _).mono ?_
  rintro e w5 ⟨rfl, hb5⟩
  have hz5 := hb5.size
  go_wp2_with fail
  refine (HO.out _).mono ?_
  rintro e w6 ⟨rfl, m6, rfl⟩
  go_wp2_with fail
  refine (HT.out _).mono ?_
  rintro e w7 ⟨rfl, m7, rfl⟩
  go_wp2_with fail
  refine (HS.out _).mono ?_
  rintro e w8 ⟨rfl, m8, rfl⟩
  go_wp2_with fail
  refine (awake_any _).mono ?_
  rintro e w9 ⟨rfl, hb9⟩
  have hz9 := hb9.size
  go_wp2_with fail
  go_ret
  have hB5 : Below w.heap.size w w5 := (below_drewN (Below.refl _ w) _).trans hb5
  have hB9 : Below w5.heap.size w5 w9 := (below_drewN (Below.refl _ w5) _).trans hb9
  exact ⟨rfl, hB5.trans (hB9.mono hB5.size)⟩
end Go.Proofs.Ytmoagnlkpkgflaa
