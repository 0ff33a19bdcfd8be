/- The laws MoneyScale and MoneyPart, walked: they return true at every input. Condition: the library's variables hold what they were given. -/
import Derived.Test.YtbaghdiimkenkaaDoorMoneyAwake
import Derived.Test.YtbaghdiimkenkaaDoorMoneyScaleRef
namespace Go.Proofs.YtbaghdiimkenkaaDoor
open Go.RowKit

/-- An amount out of a number. -/
def amtOf (n : Int) : Int := n.tmod 1000000000001
theorem amtOf_bounds (n : Int) : -1000000000000 ≤ amtOf n ∧ amtOf n ≤ 1000000000000 := by
  unfold amtOf
  have h1 := Int.tmod_lt_of_pos n (show (0 : Int) < 1000000000001 by omega)
  have h2 := Int.lt_tmod_of_pos n (show (0 : Int) < 1000000000001 by omega)
  omega
set_option maxHeartbeats 400000 in
theorem amount_any (n : Int) (w : World) : Calls Tryd.prog 12 #[.int .i64 n] w fun e w' => e = .returned (.int .i64 (amtOf n)) ∧ w = w' := by
  go_enter Tryd.func12, Tryd.ntmps12
  go_wp2
  go_ret
  exact ⟨rfl, rfl⟩

set_option maxHeartbeats 800000 in
theorem moneyScale_walk (a n d m : Int) (raw : Bool) (w : World) (hL : Libs w) :
    Calls Tryd.prog 4 #[.int .i64 a, .int .i64 n, .int .i64 d, .int .i64 m, .bool raw] w fun e w' => e = .returned (.bool true) ∧ Below w.heap.size w w' := by
  cases raw with
  | true =>
    go_enter Tryd.func4, Tryd.ntmps4
    go_wp2_with (go_at_call 12; refine (amount_any _ _).mono ?_; rintro e w0 ⟨rfl, rfl⟩)
    refine (moneyScale_any _ _ _ _ _).mono ?_
    rintro e w1 ⟨rfl, hb1⟩
    have hz1 := hb1.size
    have hL1 := hL.keep hb1
    go_wp2_with (go_at_call 12; refine (amount_any _ _).mono ?_; rintro e w0 ⟨rfl, rfl⟩)
    refine (refScale_any _ _ _ _ _).mono ?_
    rintro e w2 ⟨rfl, hb2⟩
    have hz2 := hb2.size
    have hL2 := hL1.keep hb2
    go_wp2_with (go_at_call 12; refine (amount_any _ _).mono ?_; rintro e w0 ⟨rfl, rfl⟩)
    refine (awake2_any _ hL2).mono ?_
    rintro e w3 ⟨rfl, hb3⟩
    have hz3 := hb3.size
    go_wp2_with fail
    go_ret
    exact ⟨rfl, by repeat (first | exact Below.refl _ _ | (refine Below.setCell ?_ (by first | omega | (simp; done) | (simp; omega)) _) | (refine below_drewN ?_ _) | (refine Below.alloc ?_ (by first | omega | (simp; done) | (simp; omega)) _) | (refine Below.trans ?_ (Below.mono (by assumption) (by first | omega | (simp; done) | (simp; omega)))))⟩
  | false =>
    go_enter Tryd.func4, Tryd.ntmps4
    go_wp2_with (go_at_call 12; refine (amount_any _ _).mono ?_; rintro e w0 ⟨rfl, rfl⟩)
    refine (moneyScale_any _ _ _ _ _).mono ?_
    rintro e w1 ⟨rfl, hb1⟩
    have hz1 := hb1.size
    have hL1 := hL.keep hb1
    go_wp2_with (go_at_call 12; refine (amount_any _ _).mono ?_; rintro e w0 ⟨rfl, rfl⟩)
    refine (refScale_any _ _ _ _ _).mono ?_
    rintro e w2 ⟨rfl, hb2⟩
    have hz2 := hb2.size
    have hL2 := hL1.keep hb2
    go_wp2_with (go_at_call 12; refine (amount_any _ _).mono ?_; rintro e w0 ⟨rfl, rfl⟩)
    refine (awake2_any _ hL2).mono ?_
    rintro e w3 ⟨rfl, hb3⟩
    have hz3 := hb3.size
    go_wp2_with fail
    go_ret
    exact ⟨rfl, by repeat (first | exact Below.refl _ _ | (refine Below.setCell ?_ (by first | omega | (simp; done) | (simp; omega)) _) | (refine below_drewN ?_ _) | (refine Below.alloc ?_ (by first | omega | (simp; done) | (simp; omega)) _) | (refine Below.trans ?_ (Below.mono (by assumption) (by first | omega | (simp; done) | (simp; omega)))))⟩

set_option maxHeartbeats 800000 in
theorem moneyPart_walk (a r m : Int) (raw : Bool) (w : World) (hL : Libs w) :
    Calls Tryd.prog 5 #[.int .i64 a, .int .i64 r, .int .i64 m, .bool raw] w fun e w' => e = .returned (.bool true) ∧ Below w.heap.size w w' := by
  cases raw with
  | true =>
    go_enter Tryd.func5, Tryd.ntmps5
    go_wp2_with (go_at_call 12; refine (amount_any _ _).mono ?_; rintro e w0 ⟨rfl, rfl⟩)
    refine (moneyPart_any _ _ _ _).mono ?_
    rintro e w1 ⟨rfl, hb1⟩
    have hz1 := hb1.size
    have hL1 := hL.keep hb1
    go_wp2_with (go_at_call 12; refine (amount_any _ _).mono ?_; rintro e w0 ⟨rfl, rfl⟩)
    refine (refPart_any _ _ _ _).mono ?_
    rintro e w2 ⟨rfl, hb2⟩
    have hz2 := hb2.size
    have hL2 := hL1.keep hb2
    go_wp2_with (go_at_call 12; refine (amount_any _ _).mono ?_; rintro e w0 ⟨rfl, rfl⟩)
    refine (awake2_any _ hL2).mono ?_
    rintro e w3 ⟨rfl, hb3⟩
    have hz3 := hb3.size
    go_wp2_with fail
    go_ret
    exact ⟨rfl, by repeat (first | exact Below.refl _ _ | (refine Below.setCell ?_ (by first | omega | (simp; done) | (simp; omega)) _) | (refine below_drewN ?_ _) | (refine Below.alloc ?_ (by first | omega | (simp; done) | (simp; omega)) _) | (refine Below.trans ?_ (Below.mono (by assumption) (by first | omega | (simp; done) | (simp; omega)))))⟩
  | false =>
    go_enter Tryd.func5, Tryd.ntmps5
    go_wp2_with (go_at_call 12; refine (amount_any _ _).mono ?_; rintro e w0 ⟨rfl, rfl⟩)
    refine (moneyPart_any _ _ _ _).mono ?_
    rintro e w1 ⟨rfl, hb1⟩
    have hz1 := hb1.size
    have hL1 := hL.keep hb1
    go_wp2_with (go_at_call 12; refine (amount_any _ _).mono ?_; rintro e w0 ⟨rfl, rfl⟩)
    refine (refPart_any _ _ _ _).mono ?_
    rintro e w2 ⟨rfl, hb2⟩
    have hz2 := hb2.size
    have hL2 := hL1.keep hb2
    go_wp2_with (go_at_call 12; refine (amount_any _ _).mono ?_; rintro e w0 ⟨rfl, rfl⟩)
    refine (awake2_any _ hL2).mono ?_
    rintro e w3 ⟨rfl, hb3⟩
    have hz3 := hb3.size
    go_wp2_with fail
    go_ret
    exact ⟨rfl, by repeat (first | exact Below.refl _ _ | (refine Below.setCell ?_ (by first | omega | (simp; done) | (simp; omega)) _) | (refine below_drewN ?_ _) | (refine Below.alloc ?_ (by first | omega | (simp; done) | (simp; omega)) _) | (refine Below.trans ?_ (Below.mono (by assumption) (by first | omega | (simp; done) | (simp; omega)))))⟩
end Go.Proofs.YtbaghdiimkenkaaDoor
