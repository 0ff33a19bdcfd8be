/- What MulDiv and MulMod of the package exact return, and Div, MulDiv and MulMod of their reference, for every input. No condition. -/
import Derived.Test.YtjjidbnjkhdkaaaCore
namespace Go.Proofs.Ytjjidbnjkhdkaaa
open Go.RowKit

/-- The quotient and the error of a product divided; and its remainder. -/
def mdV (a b c : Nat) (m : Int) : Nat := divV (a * b) c m
def mdE (a b c : Nat) (m : Int) : Int := divE (a * b) c m
def mmN (a b c : Nat) : Nat := if c = 0 then 0 else a * b % c
theorem mdV_lt (a b c : Nat) (m : Int) : mdV a b c m < 18446744073709551616 := divV_lt _ _ _
theorem mmN_lt (a b c : Nat) (hc : c < 18446744073709551616) : mmN a b c < 18446744073709551616 := by
  unfold mmN
  split
  · omega
  · exact Nat.lt_trans (Nat.mod_lt _ (by omega)) hc

set_option maxHeartbeats 400000 in
theorem mulDiv_any (a b c : Nat) (m : Int) (h1 : a < 18446744073709551616) (h2 : b < 18446744073709551616) (h3 : c < 18446744073709551616) (w : World) :
    Calls Try.prog 40 #[.int .u64 a, .int .u64 b, .int .u64 c, .int .i64 m] w fun e w' =>
      e = .returned (.tuple #[.int .u64 (mdV a b c m), .int .i64 (mdE a b c m)]) ∧ Below w.heap.size w w' := by
  have hl := loN_lt a b
  have hd := fun w => div_any (hiN a b) (loN a b) c m hl h3 w
  rw [hilo] at hd
  change ∀ w, Calls _ _ _ _ (fun e w' => e = .returned (.tuple #[.int .u64 (mdV a b c m), .int .i64 (mdE a b c m)]) ∧ Below w.heap.size w w') at hd
  have HD := Lib.hid hd
  clear hd
  go_enter Try.func40, Try.ntmps40
  go_wp2_with fail
  refine (mul_any a b h1 h2 _).mono ?_
  rintro e w1 ⟨rfl, hb1⟩
  have hz1 := hb1.size
  go_wp2_with fail
  refine (HD.out _).mono ?_
  rintro e w2 ⟨rfl, hb2⟩
  go_wp2_with fail
  go_ret2
  exact ⟨rfl, by repeat (first | exact Below.refl _ _ | (refine Below.setCell ?_ (by first | omega | (simp; done) | (simp; omega)) _) | (refine below_drewN ?_ _) | (refine Below.alloc ?_ (by first | omega | (simp; done) | (simp; omega)) _) | (refine Below.trans ?_ (Below.mono (by assumption) (by first | omega | (simp; done) | (simp; omega)))))⟩

end Go.Proofs.Ytjjidbnjkhdkaaa
