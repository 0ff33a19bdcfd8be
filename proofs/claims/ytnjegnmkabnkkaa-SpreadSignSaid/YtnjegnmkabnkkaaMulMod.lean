/- What the library's Rem64 and MulMod of the package exact return: the remainder. Condition of Rem64: the divisor is not 0. -/
import Derived.Test.YtnjegnmkabnkkaaCore2
namespace Go.Proofs.Ytnjegnmkabnkkaa
open Go.RowKit

set_option maxHeartbeats 400000 in
theorem rem64_any (hi lo y : Nat) (h0 : 0 < y) (h1 : hi < 18446744073709551616) (h2 : lo < 18446744073709551616) (h3 : y < 18446744073709551616) (w : World) :
    Calls Try.prog 41 #[.int .u64 hi, .int .u64 lo, .int .u64 y] w fun e w' =>
      e = .returned (.int .u64 (rN (hi * 18446744073709551616 + lo) y)) ∧ ∃ m, w' = w.drewN m := by
  have e1 : (hi : Int) % (y : Int) = (rN hi y : Int) := by unfold rN; simp
  have b1 : rN hi y < y := Nat.mod_lt _ h0
  have e2 : rN (hi * 18446744073709551616 + lo) y = rN (rN hi y * 18446744073709551616 + lo) y := by
    unfold rN
    have e : hi * 18446744073709551616 + lo = (hi % y * 18446744073709551616 + lo) + y * (hi / y * 18446744073709551616) := by
      have h := Nat.div_add_mod hi y
      rw [← Nat.mul_assoc]
      omega
    rw [e, Nat.add_mul_mod_self_left]
  rw [e2]
  clear e2
  go_enter Try.func41, Try.ntmps41
  go_wp2_with (go_at_call 44; refine (div64_any _ _ _ b1 h2 h3 _).mono ?_; rintro e w' ⟨rfl, m, rfl⟩)
  go_ret
  exact ⟨rfl, _, rfl⟩
set_option maxHeartbeats 400000 in
theorem mulMod_any (a b c : Nat) (h1 : a < 18446744073709551616) (h2 : b < 18446744073709551616) (h3 : c < 18446744073709551616) (w : World) :
    Calls Try.prog 32 #[.int .u64 a, .int .u64 b, .int .u64 c] w fun e w' =>
      e = .returned (.int .u64 (mmN a b c)) ∧ Below w.heap.size w w' := by
  by_cases hc : c = 0
  · have e0 : mmN a b c = 0 := if_pos hc
    have e1 : ((c : Int) == 0) = true := by rw [beq_iff_eq]; omega
    rw [e0]
    clear e0 hc
    go_enter Try.func32, Try.ntmps32
    go_wp2_with fail
    go_ret
    exact ⟨rfl, by repeat (first | exact Below.refl _ _ | (refine Below.setCell ?_ (by first | omega | (simp; done) | (simp; omega)) _) | (refine below_drewN ?_ _) | (refine Below.alloc ?_ (by first | omega | (simp; done) | (simp; omega)) _) | (refine Below.trans ?_ (Below.mono (by assumption) (by first | omega | (simp; done) | (simp; omega)))))⟩
  · have e1 : ((c : Int) == 0) = false := by rw [beq_eq_false_iff_ne]; omega
    have hl := loN_lt a b
    have hh := hiN_lt h1 h2
    have hd := fun w => rem64_any (hiN a b) (loN a b) c (by omega) hh hl h3 w
    have e0 : rN (hiN a b * 18446744073709551616 + loN a b) c = mmN a b c := by
      rw [hilo]
      unfold rN mmN
      rw [if_neg hc]
    rw [e0] at hd
    have HD := Lib.hid hd
    clear hd e0 hc
    go_enter Try.func32, Try.ntmps32
    go_wp2_with fail
    refine (mul_any a b h1 h2 _).mono ?_
    rintro e w1 ⟨rfl, hb1⟩
    have hz1 := hb1.size
    go_wp2_with fail
    refine (HD.out _).mono ?_
    rintro e w2 ⟨rfl, k, rfl⟩
    go_wp2_with fail
    go_ret
    exact ⟨rfl, by repeat (first | exact Below.refl _ _ | (refine Below.setCell ?_ (by first | omega | (simp; done) | (simp; omega)) _) | (refine below_drewN ?_ _) | (refine Below.alloc ?_ (by first | omega | (simp; done) | (simp; omega)) _) | (refine Below.trans ?_ (Below.mono (by assumption) (by first | omega | (simp; done) | (simp; omega)))))⟩
end Go.Proofs.Ytnjegnmkabnkkaa
