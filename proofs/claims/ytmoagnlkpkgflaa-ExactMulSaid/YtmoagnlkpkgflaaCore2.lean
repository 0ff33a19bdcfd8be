/- What MulDiv and MulMod of the package exact return, and Div, MulDiv and MulMod of their reference, for every input. No condition. -/
import Derived.Test.YtmoagnlkpkgflaaCore
namespace Go.Proofs.Ytmoagnlkpkgflaa
open Go.RowKit

/-- The quotient and the error of a product divided; and its remainder. -/
def mdV (a b c : Nat) (m : Int) : Nat := divV (a * b) c m
def mdE (a b c : Nat) (m : Int) : Int := divE (a * b) c m
def mmN (a b c : Nat) : Nat := if c = 0 then 0 else a * b % c
theorem mdV_lt (a b c : Nat) (m : Int) : mdV a b c m < 18446744073709551616 := divV_lt _ _ _
theorem mmN_lt (a b c : Nat) (hc : c < 18446744073709551616) : mmN a b c < 18446744073709551616 := by
  unfold mmN
  split
  · omega
  · exact Nat.lt_trans (Nat.mod_lt _ (by omega)) hc

set_option maxHeartbeats 400000 in
theorem mulDiv_any (a b c : Nat) (m : Int) (h1 : a < 18446744073709551616) (h2 : b < 18446744073709551616) (h3 : c < 18446744073709551616) (w : World) :
    Calls Try.prog 21 #[.int .u64 a, .int .u64 b, .int .u64 c, .int .i64 m] w fun e w' =>
      e = .returned (.tuple #[.int .u64 (mdV a b c m), .int .i64 (mdE a b c m)]) ∧ Below w.heap.size w w' := by
  have hl := loN_lt a b
  have hd := fun w => div_any (hiN a b) (loN a b) c m hl h3 w
  rw [hilo] at hd
  change ∀ w, Calls _ _ _ _ (fun e w' => e = .returned (.tuple #[.int .u64 (mdV a b c m), .int .i64 (mdE a b c m)]) ∧ Below w.heap.size w w') at hd
  have HD := Lib.hid hd
  clear hd
  go_enter Try.func21, Try.ntmps21
  go_wp2_with fail
  refine (mul_any a b h1 h2 _).mono ?_
  rintro e w1 ⟨rfl, hb1⟩
  have hz1 := hb1.size
  go_wp2_with fail
  refine (HD.out _).mono ?_
  rintro e w2 ⟨rfl, hb2⟩
  go_wp2_with fail
  go_ret2
  exact ⟨rfl, by repeat (first | exact Below.refl _ _ | (refine Below.setCell ?_ (by first | omega | (simp; done) | (simp; omega)) _) | (refine below_drewN ?_ _) | (refine Below.alloc ?_ (by first | omega | (simp; done) | (simp; omega)) _) | (refine Below.trans ?_ (Below.mono (by assumption) (by first | omega | (simp; done) | (simp; omega)))))⟩

set_option maxHeartbeats 400000 in
theorem mulMod_any (a b c : Nat) (h1 : a < 18446744073709551616) (h2 : b < 18446744073709551616) (h3 : c < 18446744073709551616) (w : World) :
    Calls Try.prog 23 #[.int .u64 a, .int .u64 b, .int .u64 c] w fun e w' =>
      e = .returned (.int .u64 (mmN a b c)) ∧ Below w.heap.size w w' := by
  by_cases hc : c = 0
  · have e0 : mmN a b c = 0 := if_pos hc
    have e1 : ((c : Int) == 0) = true := by rw [beq_iff_eq]; omega
    rw [e0]
    clear e0 hc
    go_enter Try.func23, Try.ntmps23
    go_wp2_with fail
    go_ret
    exact ⟨rfl, by repeat (first | exact Below.refl _ _ | (refine Below.setCell ?_ (by first | omega | (simp; done) | (simp; omega)) _) | (refine below_drewN ?_ _) | (refine Below.alloc ?_ (by first | omega | (simp; done) | (simp; omega)) _) | (refine Below.trans ?_ (Below.mono (by assumption) (by first | omega | (simp; done) | (simp; omega)))))⟩
  · have e1 : ((c : Int) == 0) = false := by rw [beq_eq_false_iff_ne]; omega
    have hl := loN_lt a b
    have hh := hiN_lt h1 h2
    have hd := fun w => rem64_any (hiN a b) (loN a b) c (by omega) hh hl h3 w
    have e0 : rN (hiN a b * 18446744073709551616 + loN a b) c = mmN a b c := by
      rw [hilo]
      unfold rN mmN
      rw [if_neg hc]
    rw [e0] at hd
    have HD := Lib.hid hd
    clear hd e0 hc
    go_enter Try.func23, Try.ntmps23
    go_wp2_with fail
    refine (mul_any a b h1 h2 _).mono ?_
    rintro e w1 ⟨rfl, hb1⟩
    have hz1 := hb1.size
    go_wp2_with fail
    refine (HD.out _).mono ?_
    rintro e w2 ⟨rfl, k, rfl⟩
    go_wp2_with fail
    go_ret
    exact ⟨rfl, by repeat (first | exact Below.refl _ _ | (refine Below.setCell ?_ (by first | omega | (simp; done) | (simp; omega)) _) | (refine below_drewN ?_ _) | (refine Below.alloc ?_ (by first | omega | (simp; done) | (simp; omega)) _) | (refine Below.trans ?_ (Below.mono (by assumption) (by first | omega | (simp; done) | (simp; omega)))))⟩
end Go.Proofs.Ytmoagnlkpkgflaa
