/- The law ExactCompare, walked: it returns true at every input. No condition. -/
import Derived.Test.YtmoagnlkpkgflaaCompare
import Derived.Test.YtmoagnlkpkgflaaAwake
namespace Go.Proofs.Ytmoagnlkpkgflaa
open Go.RowKit

/-- A fraction that is expanded stays equal. -/
theorem expand_eq (a b k : Nat) (hb : 0 < b) (hk : 0 < k) : cmpF (a * k) (b * k) a b = 0 := by
  have hp : b * k ≠ 0 := Nat.ne_of_gt (Nat.mul_pos hb hk)
  unfold cmpF den
  rw [if_neg (by omega), if_neg hp]
  refine cmpN_eq ?_
  rw [Nat.mul_assoc, Nat.mul_comm k]

set_option maxHeartbeats 800000 in
theorem exactCompare_walk (a b c d k : Nat) (h1 : a < 18446744073709551616) (h2 : b < 18446744073709551616) (h3 : c < 18446744073709551616) (h4 : d < 18446744073709551616) (h5 : k < 18446744073709551616) (w : World) :
    Calls Try.prog 8 #[.int .u64 a, .int .u64 b, .int .u64 c, .int .u64 d, .int .u64 k] w fun e w' => e = .returned (.bool true) ∧ Below w.heap.size w w' := by
  have hx := compare_any a b c d h1 h2 h3 h4
  have hr := refCompare_any a b c d h1 h2 h3 h4
  have hy := compare_any c d a b h3 h4 h1 h2
  rw [cmpF_neg] at hy
  obtain ⟨n1, n2⟩ : -1 ≤ cmpF a b c d ∧ cmpF a b c d ≤ 1 := cmpN_bounds _ _
  generalize cmpF a b c d = n at *
  have e1 : (a : Int) / 4294967296 = ((a / 4294967296 : Nat) : Int) := by omega
  have e2 : (b : Int) / 4294967296 = ((b / 4294967296 : Nat) : Int) := by omega
  have e3 : (k : Int) / 4294967296 = ((k / 4294967296 : Nat) : Int) := by omega
  have l1 : a / 4294967296 < 4294967296 := by omega
  have l2 : b / 4294967296 < 4294967296 := by omega
  have l3 : k / 4294967296 < 4294967296 := by omega
  generalize a / 4294967296 = x at *
  generalize b / 4294967296 = y at *
  generalize k / 4294967296 = z at *
  have HX := Lib.hid hx
  have HR := Lib.hid hr
  have HY := Lib.hid hy
  clear hx hr hy
  by_cases g1 : z = 0
  · have b1 : ((z : Int) == 0) = true := by rw [beq_iff_eq]; omega
    clear g1
    go_enter Try.func8, Try.ntmps8
    go_wp2_with fail
    refine (HX.out _).mono ?_
    rintro e w1 ⟨rfl, hb1⟩
    have hz1 := hb1.size
    go_wp2_with fail
    refine (HR.out _).mono ?_
    rintro e w2 ⟨rfl, hb2⟩
    have hz2 := hb2.size
    go_wp2_with fail
    refine (HY.out _).mono ?_
    rintro e w3 ⟨rfl, hb3⟩
    have hz3 := hb3.size
    go_wp2_with fail
    refine (awake_any _).mono ?_
    rintro e w4 ⟨rfl, hb4⟩
    have hz4 := hb4.size
    go_wp2_with fail
    go_ret
    exact ⟨rfl, by repeat (first | exact Below.refl _ _ | (refine Below.setCell ?_ (by first | omega | (simp; done) | (simp; omega)) _) | (refine below_drewN ?_ _) | (refine Below.alloc ?_ (by first | omega | (simp; done) | (simp; omega)) _) | (refine Below.trans ?_ (Below.mono (by assumption) (by first | omega | (simp; done) | (simp; omega)))))⟩
  by_cases g2 : y = 0
  · have b1 : ((z : Int) == 0) = false := by rw [beq_eq_false_iff_ne]; omega
    have b2 : ((y : Int) == 0) = true := by rw [beq_iff_eq]; omega
    clear g1 g2
    go_enter Try.func8, Try.ntmps8
    go_wp2_with fail
    refine (HX.out _).mono ?_
    rintro e w1 ⟨rfl, hb1⟩
    have hz1 := hb1.size
    go_wp2_with fail
    refine (HR.out _).mono ?_
    rintro e w2 ⟨rfl, hb2⟩
    have hz2 := hb2.size
    go_wp2_with fail
    refine (HY.out _).mono ?_
    rintro e w3 ⟨rfl, hb3⟩
    have hz3 := hb3.size
    go_wp2_with fail
    refine (awake_any _).mono ?_
    rintro e w4 ⟨rfl, hb4⟩
    have hz4 := hb4.size
    go_wp2_with fail
    go_ret
    exact ⟨rfl, by repeat (first | exact Below.refl _ _ | (refine Below.setCell ?_ (by first | omega | (simp; done) | (simp; omega)) _) | (refine below_drewN ?_ _) | (refine Below.alloc ?_ (by first | omega | (simp; done) | (simp; omega)) _) | (refine Below.trans ?_ (Below.mono (by assumption) (by first | omega | (simp; done) | (simp; omega)))))⟩
  · have b1 : ((z : Int) == 0) = false := by rw [beq_eq_false_iff_ne]; omega
    have b2 : ((y : Int) == 0) = false := by rw [beq_eq_false_iff_ne]; omega
    have p1 : x * z < 18446744073709551616 := Nat.lt_of_lt_of_le (Nat.mul_lt_mul'' l1 l3) (by decide)
    have p2 : y * z < 18446744073709551616 := Nat.lt_of_lt_of_le (Nat.mul_lt_mul'' l2 l3) (by decide)
    have e4 : (x : Int) * (z : Int) = ((x * z : Nat) : Int) := by simp
    have e5 : (y : Int) * (z : Int) = ((y * z : Nat) : Int) := by simp
    have hz := compare_any (x * z) (y * z) x y p1 p2 (by omega) (by omega)
    rw [expand_eq x y z (by omega) (by omega)] at hz
    generalize x * z = u at *
    generalize y * z = v at *
    have HZ := Lib.hid hz
    clear hz g1 g2
    go_enter Try.func8, Try.ntmps8
    go_wp2_with fail
    refine (HX.out _).mono ?_
    rintro e w1 ⟨rfl, hb1⟩
    have hz1 := hb1.size
    go_wp2_with fail
    refine (HR.out _).mono ?_
    rintro e w2 ⟨rfl, hb2⟩
    have hz2 := hb2.size
    go_wp2_with fail
    refine (HY.out _).mono ?_
    rintro e w3 ⟨rfl, hb3⟩
    have hz3 := hb3.size
    go_wp2_with fail
    refine (HZ.out _).mono ?_
    rintro e w4 ⟨rfl, hb4⟩
    have hz4 := hb4.size
    go_wp2_with fail
    refine (awake_any _).mono ?_
    rintro e w5 ⟨rfl, hb5⟩
    have hz5 := hb5.size
    go_wp2_with fail
    go_ret
    exact ⟨rfl, by repeat (first | exact Below.refl _ _ | (refine Below.setCell ?_ (by first | omega | (simp; done) | (simp; omega)) _) | (refine below_drewN ?_ _) | (refine Below.alloc ?_ (by first | omega | (simp; done) | (simp; omega)) _) | (refine Below.trans ?_ (Below.mono (by assumption) (by first | omega | (simp; done) | (simp; omega)))))⟩
end Go.Proofs.Ytmoagnlkpkgflaa
