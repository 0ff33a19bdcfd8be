/- What Mul and Add of the package exact, and Mul and Order of its reference, return, for every input. No condition. -/
import Derived.Test.YtmoagnlkpkgflaaSmall
import Derived.Test.YtmoagnlkpkgflaaShelf
import Derived.Laws.Externs
namespace Go.Proofs.Ytmoagnlkpkgflaa
open Go.RowKit

theorem add64 (x y c : Int) (hx : 0 ≤ x) (hy : 0 ≤ y) (hc0 : 0 ≤ c) (hc : c ≤ 1) (w : World) : (callFunc 32 #[.int .u64 x, .int .u64 y, .int .u64 c]).run Try.prog w =
    .ok (.value (.tuple #[.int .u64 ((x + y + c) % 18446744073709551616), .int .u64 ((x + y + c) / 18446744073709551616)])) w := by
  rw [run_callFunc_extern Try.func32 (by kernel_rfl) (by kernel_rfl) (by kernel_rfl) (e := add64Entry) (by kernel_rfl), run_add64 x y c hx hy hc0 hc]
  rfl
theorem add64_0 (x y : Int) (hx : 0 ≤ x) (hy : 0 ≤ y) (w : World) : (callFunc 32 #[.int .u64 x, .int .u64 y, .int .u64 0]).run Try.prog w =
    .ok (.value (.tuple #[.int .u64 ((x + y) % 18446744073709551616), .int .u64 ((x + y) / 18446744073709551616)])) w := by
  simpa using add64 x y 0 hx hy (Int.le_refl 0) (by decide) w

theorem mul64_any (x y : Nat) (hx : x < 18446744073709551616) (hy : y < 18446744073709551616) (w : World) :
    Calls Try.prog 31 #[.int .u64 x, .int .u64 y] w fun e w' => e = .returned (.tuple #[.int .u64 (hiN x y), .int .u64 (loN x y)]) ∧ w = w' :=
  (Try.bits_Mul64 x y hx hy w).mono fun _ _ h => ⟨h.1, h.2.symm⟩

set_option maxHeartbeats 400000 in
theorem mul_any (a b : Nat) (ha : a < 18446744073709551616) (hb : b < 18446744073709551616) (w : World) :
    Calls Try.prog 11 #[.int .u64 a, .int .u64 b] w fun e w' => e = .returned (.agg #[.int .u64 (hiN a b), .int .u64 (loN a b)]) ∧ Below w.heap.size w w' := by
  go_enter Try.func11, Try.ntmps11
  go_wp2_with (go_at_call 31; refine (mul64_any _ _ ha hb _).mono ?_; rintro e w' ⟨rfl, rfl⟩)
  simp [bodyPost, results, Try.results11, go_sem]
  repeat (first | exact Below.refl _ _ | (refine Below.setCell ?_ (by first | omega | (simp; done) | (simp; omega)) _) | (refine below_drewN ?_ _) | (refine Below.alloc ?_ (by first | omega | (simp; done) | (simp; omega)) _) | (refine Below.trans ?_ (Below.mono (by assumption) (by first | omega | (simp; done) | (simp; omega)))))

set_option maxHeartbeats 400000 in
theorem add_ok (ah al bh bl : Nat) (h1 : ah < 18446744073709551616) (h2 : al < 18446744073709551616) (h3 : bh < 18446744073709551616) (h4 : bl < 18446744073709551616) (w : World) (ho : sOv ah al bh bl = false) :
    Calls Try.prog 15 #[.agg #[.int .u64 ah, .int .u64 al], .agg #[.int .u64 bh, .int .u64 bl]] w fun e w' =>
      e = .returned (.tuple #[.agg #[.int .u64 (sHi ah al bh bl), .int .u64 (sLo al bl)], .int .i64 0]) ∧ Below w.heap.size w w' := by
  have k0 : 0 ≤ ((al : Int) + bl) / 18446744073709551616 := by omega
  have k1 : ((al : Int) + bl) / 18446744073709551616 ≤ 1 := by omega
  have k2 : ((ah : Int) + bh + ((al : Int) + bl) / 18446744073709551616) / 18446744073709551616 = 0 := by
    unfold sOv at ho; simp at ho; omega
  clear ho
  go_enter Try.func15, Try.ntmps15
  go_wp2_with (first | simp only [add64_0 (al : Int) bl (by omega) (by omega)] | simp only [add64 (ah : Int) bh _ (by omega) (by omega) k0 k1])
  simp [bodyPost, results, Try.results15, go_sem]
  refine ⟨⟨?_, ?_⟩, by repeat (first | exact Below.refl _ _ | (refine Below.setCell ?_ (by first | omega | (simp; done) | (simp; omega)) _) | (refine below_drewN ?_ _) | (refine Below.alloc ?_ (by first | omega | (simp; done) | (simp; omega)) _) | (refine Below.trans ?_ (Below.mono (by assumption) (by first | omega | (simp; done) | (simp; omega)))))⟩
  · unfold sHi; omega
  · unfold sLo; omega

set_option maxHeartbeats 400000 in
theorem add_over (ah al bh bl : Nat) (h1 : ah < 18446744073709551616) (h2 : al < 18446744073709551616) (h3 : bh < 18446744073709551616) (h4 : bl < 18446744073709551616) (w : World) (ho : sOv ah al bh bl = true) :
    Calls Try.prog 15 #[.agg #[.int .u64 ah, .int .u64 al], .agg #[.int .u64 bh, .int .u64 bl]] w fun e w' =>
      e = .returned (.tuple #[.agg #[.int .u64 0, .int .u64 0], .int .i64 3]) ∧ Below w.heap.size w w' := by
  have k0 : 0 ≤ ((al : Int) + bl) / 18446744073709551616 := by omega
  have k1 : ((al : Int) + bl) / 18446744073709551616 ≤ 1 := by omega
  have k2 : ((ah : Int) + bh + ((al : Int) + bl) / 18446744073709551616) / 18446744073709551616 = 1 := by
    unfold sOv at ho; simp at ho; omega
  clear ho
  go_enter Try.func15, Try.ntmps15
  go_wp2_with (first | simp only [add64_0 (al : Int) bl (by omega) (by omega)] | simp only [add64 (ah : Int) bh _ (by omega) (by omega) k0 k1])
  simp [bodyPost, results, Try.results15, go_sem]
  repeat (first | exact Below.refl _ _ | (refine Below.setCell ?_ (by first | omega | (simp; done) | (simp; omega)) _) | (refine below_drewN ?_ _) | (refine Below.alloc ?_ (by first | omega | (simp; done) | (simp; omega)) _) | (refine Below.trans ?_ (Below.mono (by assumption) (by first | omega | (simp; done) | (simp; omega)))))

set_option maxHeartbeats 400000 in
theorem same_any (ah al bh bl : Nat) (w : World) :
    Calls Try.prog 12 #[.agg #[.int .u64 ah, .int .u64 al], .agg #[.int .u64 bh, .int .u64 bl]] w fun e w' =>
      e = .returned (.bool (decide (ah = bh ∧ al = bl))) ∧ Below w.heap.size w w' := by
  by_cases h1 : ah = bh
  · subst h1
    by_cases h2 : al = bl
    · subst h2
      go_enter Try.func12, Try.ntmps12
      go_wp2
      go_ret
      exact ⟨by simp, by repeat (first | exact Below.refl _ _ | (refine Below.setCell ?_ (by first | omega | (simp; done) | (simp; omega)) _) | (refine below_drewN ?_ _) | (refine Below.alloc ?_ (by first | omega | (simp; done) | (simp; omega)) _) | (refine Below.trans ?_ (Below.mono (by assumption) (by first | omega | (simp; done) | (simp; omega)))))⟩
    · have h3 : ((al : Int) == bl) = false := by rw [beq_eq_false_iff_ne]; omega
      go_enter Try.func12, Try.ntmps12
      go_wp2
      go_ret
      exact ⟨by simp [h2], by repeat (first | exact Below.refl _ _ | (refine Below.setCell ?_ (by first | omega | (simp; done) | (simp; omega)) _) | (refine below_drewN ?_ _) | (refine Below.alloc ?_ (by first | omega | (simp; done) | (simp; omega)) _) | (refine Below.trans ?_ (Below.mono (by assumption) (by first | omega | (simp; done) | (simp; omega)))))⟩
  · have h3 : ((ah : Int) == bh) = false := by rw [beq_eq_false_iff_ne]; omega
    go_enter Try.func12, Try.ntmps12
    go_wp2
    go_ret
    exact ⟨by simp [h1], by repeat (first | exact Below.refl _ _ | (refine Below.setCell ?_ (by first | omega | (simp; done) | (simp; omega)) _) | (refine below_drewN ?_ _) | (refine Below.alloc ?_ (by first | omega | (simp; done) | (simp; omega)) _) | (refine Below.trans ?_ (Below.mono (by assumption) (by first | omega | (simp; done) | (simp; omega)))))⟩

/-- The order of two numbers of two words, as the reference has it. -/
def ordW (ah al bh bl : Nat) : Int := if lessW ah al bh bl then -1 else if lessW bh bl ah al then 1 else 0

set_option maxHeartbeats 400000 in
theorem refOrder_any (ah al bh bl : Nat) (w : World) :
    Calls Try.prog 18 #[.agg #[.int .u64 ah, .int .u64 al], .agg #[.int .u64 bh, .int .u64 bl]] w fun e w' =>
      e = .returned (.int .i64 (ordW ah al bh bl)) ∧ Below w.heap.size w w' := by
  by_cases h1 : lessW ah al bh bl = true
  · have e0 : ordW ah al bh bl = -1 := by simp [ordW, h1]
    rw [e0]
    clear e0
    go_enter Try.func18, Try.ntmps18
    go_wp2_with (go_at_call 34; refine (refLess_any _ _ _ _ _).mono ?_; rintro e w' ⟨rfl, hb⟩)
    go_ret
    exact ⟨rfl, (((Below.refl _ _).alloc (Nat.le_refl _) _).alloc (by simp) _).trans (hb.mono (by simp; omega))⟩
  · have h1' : lessW ah al bh bl = false := by simpa using h1
    clear h1
    by_cases h2 : lessW bh bl ah al = true
    · have e0 : ordW ah al bh bl = 1 := by simp [ordW, h1', h2]
      rw [e0]
      clear e0
      go_enter Try.func18, Try.ntmps18
      go_wp2_with (go_at_call 34; refine (refLess_any _ _ _ _ _).mono ?_; rintro e w' ⟨rfl, hb⟩; obtain ⟨hc, hf⟩ := bcell hb; have hz := hb.size; try simp at hz)
      go_ret
      exact ⟨rfl, by repeat (first | exact Below.refl _ _ | (refine Below.setCell ?_ (by first | omega | (simp; done) | (simp; omega)) _) | (refine below_drewN ?_ _) | (refine Below.alloc ?_ (by first | omega | (simp; done) | (simp; omega)) _) | (refine Below.trans ?_ (Below.mono (by assumption) (by first | omega | (simp; done) | (simp; omega)))))⟩
    · have h2' : lessW bh bl ah al = false := by simpa using h2
      clear h2
      have e0 : ordW ah al bh bl = 0 := by simp [ordW, h1', h2']
      rw [e0]
      clear e0
      go_enter Try.func18, Try.ntmps18
      go_wp2_with (go_at_call 34; refine (refLess_any _ _ _ _ _).mono ?_; rintro e w' ⟨rfl, hb⟩; obtain ⟨hc, hf⟩ := bcell hb; have hz := hb.size; try simp at hz)
      go_ret
      exact ⟨rfl, by repeat (first | exact Below.refl _ _ | (refine Below.setCell ?_ (by first | omega | (simp; done) | (simp; omega)) _) | (refine below_drewN ?_ _) | (refine Below.alloc ?_ (by first | omega | (simp; done) | (simp; omega)) _) | (refine Below.trans ?_ (Below.mono (by assumption) (by first | omega | (simp; done) | (simp; omega)))))⟩
end Go.Proofs.Ytmoagnlkpkgflaa
