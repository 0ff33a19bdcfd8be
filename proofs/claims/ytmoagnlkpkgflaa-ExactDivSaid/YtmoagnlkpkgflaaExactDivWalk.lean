/- The law ExactDiv, walked: it returns true at every input. No condition. -/
import Derived.Test.YtmoagnlkpkgflaaRefCore
import Derived.Test.YtmoagnlkpkgflaaAwake
namespace Go.Proofs.Ytmoagnlkpkgflaa
open Go.RowKit

/-- From the two calls on: the same dividend, divisor and mode. -/
theorem exactDiv_walk (hi lo c : Nat) (small : Bool) (m : Int) (h1 : hi < 18446744073709551616) (h2 : lo < 18446744073709551616) (h3 : c < 18446744073709551616) (w : World) :
    Calls Try.prog 5 #[.int .u64 hi, .int .u64 lo, .int .u64 c, .bool small, .int .i64 m] w fun e w' => e = .returned (.bool true) ∧ Below w.heap.size w w' := by
  by_cases hs : small = true ∧ 0 < c
  · obtain ⟨rfl, hc⟩ := hs
    have hl := Nat.mod_lt hi hc
    have e1 : (hi : Int) % (c : Int) = ((hi % c : Nat) : Int) := by simp
    generalize hi % c = z at *
    have hd := div_any z lo c m h2 h3
    have hr := refDiv_any z lo c m (by omega) h2 h3
    generalize divV (z * 18446744073709551616 + lo) c m = V at *
    generalize divE (z * 18446744073709551616 + lo) c m = E at *
    have HD := Lib.hid hd
    have HR := Lib.hid hr
    clear hd hr
    go_enter Try.func5, Try.ntmps5
    go_wp2_with fail
    refine (HD.out _).mono ?_
    rintro e w1 ⟨rfl, hb1⟩
    have hz1 := hb1.size
    go_wp2_with fail
    refine (HR.out _).mono ?_
    rintro e w2 ⟨rfl, hb2⟩
    have hz2 := hb2.size
    go_wp2_with fail
    refine (awake_any _).mono ?_
    rintro e w3 ⟨rfl, hb3⟩
    go_wp2_with fail
    go_ret
    exact ⟨rfl, by repeat (first | exact Below.refl _ _ | (refine Below.setCell ?_ (by first | omega | (simp; done) | (simp; omega)) _) | (refine below_drewN ?_ _) | (refine Below.alloc ?_ (by first | omega | (simp; done) | (simp; omega)) _) | (refine Below.trans ?_ (Below.mono (by assumption) (by first | omega | (simp; done) | (simp; omega)))))⟩
  · have hs' : small = true → ¬ 0 < c := fun h h0 => hs ⟨h, h0⟩
    have hd := div_any hi lo c m h2 h3
    have hr := refDiv_any hi lo c m h1 h2 h3
    generalize divV (hi * 18446744073709551616 + lo) c m = V at *
    generalize divE (hi * 18446744073709551616 + lo) c m = E at *
    have HD := Lib.hid hd
    have HR := Lib.hid hr
    clear hd hr hs
    cases small with
    | false =>
      clear hs'
      go_enter Try.func5, Try.ntmps5
      go_wp2_with fail
      refine (HD.out _).mono ?_
      rintro e w1 ⟨rfl, hb1⟩
      have hz1 := hb1.size
      go_wp2_with fail
      refine (HR.out _).mono ?_
      rintro e w2 ⟨rfl, hb2⟩
      have hz2 := hb2.size
      go_wp2_with fail
      refine (awake_any _).mono ?_
      rintro e w3 ⟨rfl, hb3⟩
      go_wp2_with fail
      go_ret
      exact ⟨rfl, by repeat (first | exact Below.refl _ _ | (refine Below.setCell ?_ (by first | omega | (simp; done) | (simp; omega)) _) | (refine below_drewN ?_ _) | (refine Below.alloc ?_ (by first | omega | (simp; done) | (simp; omega)) _) | (refine Below.trans ?_ (Below.mono (by assumption) (by first | omega | (simp; done) | (simp; omega)))))⟩
    | true =>
      have hc0 : decide (0 < c) = false := decide_eq_false (hs' rfl)
      clear hs'
      go_enter Try.func5, Try.ntmps5
      go_wp2_with fail
      refine (HD.out _).mono ?_
      rintro e w1 ⟨rfl, hb1⟩
      have hz1 := hb1.size
      go_wp2_with fail
      refine (HR.out _).mono ?_
      rintro e w2 ⟨rfl, hb2⟩
      have hz2 := hb2.size
      go_wp2_with fail
      refine (awake_any _).mono ?_
      rintro e w3 ⟨rfl, hb3⟩
      go_wp2_with fail
      go_ret
      exact ⟨rfl, by repeat (first | exact Below.refl _ _ | (refine Below.setCell ?_ (by first | omega | (simp; done) | (simp; omega)) _) | (refine below_drewN ?_ _) | (refine Below.alloc ?_ (by first | omega | (simp; done) | (simp; omega)) _) | (refine Below.trans ?_ (Below.mono (by assumption) (by first | omega | (simp; done) | (simp; omega)))))⟩
end Go.Proofs.Ytmoagnlkpkgflaa
