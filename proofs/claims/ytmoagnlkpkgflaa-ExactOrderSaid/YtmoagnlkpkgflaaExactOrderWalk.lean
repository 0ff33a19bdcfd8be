/- The law ExactOrder, walked: it returns true at every input. No condition. -/
import Derived.Test.YtmoagnlkpkgflaaCompare
import Derived.Test.YtmoagnlkpkgflaaAwake
namespace Go.Proofs.Ytmoagnlkpkgflaa
open Go.RowKit

set_option maxHeartbeats 400000 in
theorem exactOrder_walk (a b c d p q : Nat) (h1 : a < 18446744073709551616) (h2 : b < 18446744073709551616) (h3 : c < 18446744073709551616) (h4 : d < 18446744073709551616) (h5 : p < 18446744073709551616) (h6 : q < 18446744073709551616) (w : World) :
    Calls Try.prog 9 #[.int .u64 a, .int .u64 b, .int .u64 c, .int .u64 d, .int .u64 p, .int .u64 q] w fun e w' => e = .returned (.bool true) ∧ Below w.heap.size w w' := by
  have hx := compare_any a b c d h1 h2 h3 h4
  have hy := compare_any c d p q h3 h4 h5 h6
  have hz := compare_any a b p q h1 h2 h5 h6
  have ht := cmpF_trans a b c d p q
  generalize cmpF a b c d = n1 at *
  generalize cmpF c d p q = n2 at *
  generalize cmpF a b p q = n3 at *
  have HX := Lib.hid hx
  have HY := Lib.hid hy
  have HZ := Lib.hid hz
  clear hx hy hz
  by_cases g1 : n1 ≤ 0
  · by_cases g2 : n2 ≤ 0
    · have g3 := ht g1 g2
      have d1 : decide (n1 ≤ 0) = true := decide_eq_true g1
      have d2 : decide (n2 ≤ 0) = true := decide_eq_true g2
      have d3 : decide (n3 ≤ 0) = true := decide_eq_true g3
      clear ht
      go_enter Try.func9, Try.ntmps9
      go_wp2_with fail
      refine (HX.out _).mono ?_
      rintro e w1 ⟨rfl, hb1⟩
      have hz1 := hb1.size
      go_wp2_with fail
      refine (HY.out _).mono ?_
      rintro e w2 ⟨rfl, hb2⟩
      have hz2 := hb2.size
      go_wp2_with fail
      refine (HZ.out _).mono ?_
      rintro e w3 ⟨rfl, hb3⟩
      have hz3 := hb3.size
      go_wp2_with fail
      refine (awake_any _).mono ?_
      rintro e w4 ⟨rfl, hb4⟩
      go_wp2_with fail
      go_ret
      exact ⟨rfl, by repeat (first | exact Below.refl _ _ | (refine Below.setCell ?_ (by first | omega | (simp; done) | (simp; omega)) _) | (refine below_drewN ?_ _) | (refine Below.alloc ?_ (by first | omega | (simp; done) | (simp; omega)) _) | (refine Below.trans ?_ (Below.mono (by assumption) (by first | omega | (simp; done) | (simp; omega)))))⟩
    · have d1 : decide (n1 ≤ 0) = true := decide_eq_true g1
      have d2 : decide (n2 ≤ 0) = false := decide_eq_false g2
      clear ht
      go_enter Try.func9, Try.ntmps9
      go_wp2_with fail
      refine (HX.out _).mono ?_
      rintro e w1 ⟨rfl, hb1⟩
      have hz1 := hb1.size
      go_wp2_with fail
      refine (HY.out _).mono ?_
      rintro e w2 ⟨rfl, hb2⟩
      have hz2 := hb2.size
      go_wp2_with fail
      refine (awake_any _).mono ?_
      rintro e w4 ⟨rfl, hb4⟩
      go_wp2_with fail
      go_ret
      exact ⟨rfl, by repeat (first | exact Below.refl _ _ | (refine Below.setCell ?_ (by first | omega | (simp; done) | (simp; omega)) _) | (refine below_drewN ?_ _) | (refine Below.alloc ?_ (by first | omega | (simp; done) | (simp; omega)) _) | (refine Below.trans ?_ (Below.mono (by assumption) (by first | omega | (simp; done) | (simp; omega)))))⟩
  · have d1 : decide (n1 ≤ 0) = false := decide_eq_false g1
    clear ht
    go_enter Try.func9, Try.ntmps9
    go_wp2_with fail
    refine (HX.out _).mono ?_
    rintro e w1 ⟨rfl, hb1⟩
    have hz1 := hb1.size
    go_wp2_with fail
    refine (awake_any _).mono ?_
    rintro e w4 ⟨rfl, hb4⟩
    go_wp2_with fail
    go_ret
    exact ⟨rfl, by repeat (first | exact Below.refl _ _ | (refine Below.setCell ?_ (by first | omega | (simp; done) | (simp; omega)) _) | (refine below_drewN ?_ _) | (refine Below.alloc ?_ (by first | omega | (simp; done) | (simp; omega)) _) | (refine Below.trans ?_ (Below.mono (by assumption) (by first | omega | (simp; done) | (simp; omega)))))⟩
end Go.Proofs.Ytmoagnlkpkgflaa
