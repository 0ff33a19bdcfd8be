/- What the function Sum of the package money returns, for every list of numbers. Condition: the list's cells are known. -/
import Derived.Test.YtnjegnmkabnkkaaMoneyOne
namespace Go.Proofs.Ytnjegnmkabnkkaa
open Go.RowKit

theorem allAmt_at {f : Nat → Int} : ∀ {n : Nat}, allAmt f n = true → ∀ j, j < n → -1000000000000 ≤ f j ∧ f j ≤ 1000000000000
  | 0, _, j, hj => absurd hj (by omega)
  | n + 1, h, j, hj => by
    have h' : (allAmt f n && amtB (f n)) = true := h
    rw [Bool.and_eq_true] at h'
    by_cases e : j = n
    · rw [e]; exact (amtB_iff _).1 h'.2
    · exact allAmt_at h'.1 j (by omega)

/-- The sum, held as so many greatest amounts and a rest. -/
structure SumAt (f : Nat → Int) (k : Nat) (q r : Int) : Prop where
  sum : sumT f k = q * 1000000000000 + r
  rest : -1000000000000 < r ∧ r < 1000000000000
  full : -(k : Int) ≤ q ∧ q ≤ (k : Int)
theorem SumAt.step {f : Nat → Int} {k : Nat} {q r : Int} (h : SumAt f k q r) (ha : -1000000000000 ≤ f k ∧ f k ≤ 1000000000000) :
    SumAt f (k + 1) (q + (r + f k).tdiv 1000000000000) ((r + f k).tmod 1000000000000) := by
  obtain ⟨h1, h2, h3⟩ := h
  have e := Int.mul_tdiv_add_tmod (r + f k) 1000000000000
  have t1 := Int.tmod_lt_of_pos (r + f k) (show (0 : Int) < 1000000000000 by omega)
  have t2 := Int.lt_tmod_of_pos (r + f k) (show (0 : Int) < 1000000000000 by omega)
  have t3 : 0 ≤ r + f k → 0 ≤ (r + f k).tmod 1000000000000 := fun h => Int.tmod_nonneg _ h
  have t4 : r + f k ≤ 0 → (r + f k).tmod 1000000000000 ≤ 0 := fun h => by
    have := Int.tmod_nonneg 1000000000000 (show 0 ≤ -(r + f k) by omega)
    rw [Int.neg_tmod] at this
    omega
  have hs : sumT f (k + 1) = sumT f k + f k := rfl
  generalize (r + f k).tdiv 1000000000000 = u at *
  generalize (r + f k).tmod 1000000000000 = v at *
  exact ⟨by omega, by omega, by omega⟩
/-- When the sum is an amount. -/
theorem SumAt.amount {f : Nat → Int} {k : Nat} {q r : Int} (h : SumAt f k q r) : (amtB (sumT f k) = true ↔ (-1 ≤ q ∧ q ≤ 1) ∧ amtB (q * 1000000000000 + r) = true) := by
  obtain ⟨h1, h2, h3⟩ := h
  rw [h1]
  constructor
  · intro h
    have := (amtB_iff _).1 h
    exact ⟨by omega, h⟩
  · exact fun h => h.2

set_option maxHeartbeats 1600000 in
theorem moneySum_some (a : Addr) (n cap : Nat) (f : Nat → Int) (hn : n ≤ 4611686018427387904) (w : World) (hc : ∀ j, j < n → w.cell? (a.add j) = some (.int .i64 (f j))) :
    Calls Try.prog 26 #[.slice (some a) n cap] w fun e w' => e = .returned (.tuple #[.int .i64 (suV f n), .int .i64 (suE f n)]) ∧ Below w.heap.size w w' := by
  have HA := Lib.hid (areAmounts_any (some a) n cap f (by omega) w (.inr ⟨a, rfl, hc⟩))
  cases hall : allAmt f n with
  | false =>
    have e1 : suV f n = 0 := by unfold suV; rw [hall]; rfl
    have e2 : suE f n = 2 := by unfold suE; rw [hall]; rfl
    rw [e1, e2]
    rw [hall] at HA
    clear e1 e2 hall
    go_enter Try.func26, Try.ntmps26
    go_wp2_with fail
    refine HA.out.mono ?_
    rintro e w1 ⟨rfl, rfl⟩
    go_wp2_with fail
    go_ret2
    exact ⟨rfl, Below.refl _ _⟩
  | true =>
    have hat := allAmt_at hall
    have e1 : suV f n = if amtB (sumT f n) then sumT f n else 0 := by unfold suV; rw [hall]; rfl
    have e2 : suE f n = if amtB (sumT f n) then 0 else 3 := by unfold suE; rw [hall]; rfl
    rw [hall] at HA
    clear hall
    go_enter Try.func26, Try.ntmps26
    go_wp2_with fail
    refine HA.out.mono ?_
    rintro e w1 ⟨rfl, rfl⟩
    go_wp2_with fail
    go_loop [5, 4, 13] (fun r q i => ∃ (k : Nat) (Q R : Int), k ≤ n ∧ i = .int .i64 k ∧ q = .int .i64 Q ∧ r = .int .i64 R ∧ Hid (SumAt f k Q R)) (fun _ _ i => n - (intOf i).toNat)
    case atStart => exact ⟨0, 0, 0, Nat.zero_le _, rfl, rfl, rfl, Lib.hid ⟨rfl, by omega, by omega⟩⟩
    case round =>
      obtain ⟨k, Q, R, hk, rfl, rfl, rfl, hI⟩ := hrel
      by_cases hlt : k < n
      · have hcell := hc k hlt
        have hx := hat k hlt
        have hI2 := Lib.hid (hI.out.step hx)
        have hr := hI.out.rest
        have hq := hI.out.full
        have hr2 := hI2.out.rest
        have hq2 := hI2.out.full
        clear hI hat hc
        generalize f k = x at *
        go_wp2
        go_round
        case rel => exact ⟨k + 1, _, _, by omega, by go_num, rfl, rfl, hI2⟩
        case measure => simp [intOf]; omega
      · have : k = n := by omega
        subst this
        obtain ⟨i1, i2⟩ := hI.out.amount
        have hs := hI.out.sum
        have hr := hI.out.rest
        have hq := hI.out.full
        clear hI hat hc
        generalize sumT f k = S at *
        have hW := within_one (-1) 1 Q
        by_cases hf : -1 ≤ Q ∧ Q ≤ 1
        · rw [show (decide (-1 ≤ Q) && decide (Q ≤ 1)) = true by rw [Bool.and_eq_true, decide_eq_true_eq, decide_eq_true_eq]; exact hf] at hW
          have hA := areAmounts_one (Q * 1000000000000 + R)
          cases hb : amtB (Q * 1000000000000 + R) with
          | true =>
            have hS := i2 ⟨hf, hb⟩
            rw [hS] at e1 e2
            rw [hb] at hA
            have HE := Lib.hid (And.intro e1 e2)
            have HW := Lib.hid hW
            have HB := Lib.hid hA
            have HS := Lib.hid hs
            clear hW hA i1 i2 e1 e2 hb hS hs
            go_wp2_with fail
            refine (HW.out _ _ (by simp [go_sem])).mono ?_
            rintro e w1 ⟨rfl, rfl⟩
            go_wp2_with fail
            refine (HB.out _ _ (by simp [go_sem])).mono ?_
            rintro e w1 ⟨rfl, rfl⟩
            go_wp2_with fail
            go_ret2
            refine ⟨?_, by repeat (first | exact Below.refl _ _ | (refine Below.alloc ?_ (by first | omega | (simp; done) | (simp; omega)) _))⟩
            rw [HE.out.1, HE.out.2, HS.out]
            rfl
          | false =>
            have hS : amtB S = false := by
              cases hc : amtB S with
              | true => exact absurd (i1 hc).2 (by rw [hb]; simp)
              | false => rfl
            rw [hS] at e1 e2
            rw [hb] at hA
            have HE := Lib.hid (And.intro e1 e2)
            have HW := Lib.hid hW
            have HB := Lib.hid hA
            clear hW hA i1 i2 e1 e2 hb hS hs
            go_wp2_with fail
            refine (HW.out _ _ (by simp [go_sem])).mono ?_
            rintro e w1 ⟨rfl, rfl⟩
            go_wp2_with fail
            refine (HB.out _ _ (by simp [go_sem])).mono ?_
            rintro e w1 ⟨rfl, rfl⟩
            go_wp2_with fail
            go_ret2
            refine ⟨?_, by repeat (first | exact Below.refl _ _ | (refine Below.alloc ?_ (by first | omega | (simp; done) | (simp; omega)) _))⟩
            rw [HE.out.1, HE.out.2]
            rfl
        · rw [show (decide (-1 ≤ Q) && decide (Q ≤ 1)) = false by rw [Bool.and_eq_false_iff, decide_eq_false_iff_not, decide_eq_false_iff_not]; omega] at hW
          have hS : amtB S = false := by
            cases hc : amtB S with
            | true => exact absurd (i1 hc).1 hf
            | false => rfl
          rw [hS] at e1 e2
          have HE := Lib.hid (And.intro e1 e2)
          have HW := Lib.hid hW
          clear hW i1 i2 e1 e2 hS hs hf
          go_wp2_with fail
          refine (HW.out _ _ (by simp [go_sem])).mono ?_
          rintro e w1 ⟨rfl, rfl⟩
          go_wp2_with fail
          go_ret2
          refine ⟨?_, by repeat (first | exact Below.refl _ _ | (refine Below.alloc ?_ (by first | omega | (simp; done) | (simp; omega)) _))⟩
          rw [HE.out.1, HE.out.2]
          rfl

set_option maxHeartbeats 400000 in
theorem moneySum_nil (w : World) : Calls Try.prog 26 #[.slice none 0 0] w fun e w' => e = .returned (.tuple #[.int .i64 0, .int .i64 0]) ∧ Below w.heap.size w w' := by
  have HA := Lib.hid (areAmounts_any none 0 0 (fun _ => 0) (by omega) w (.inl ⟨rfl, rfl, rfl⟩))
  have HW := Lib.hid (within_one (-1) 1 0)
  have HB := Lib.hid (areAmounts_one 0)
  go_enter Try.func26, Try.ntmps26
  go_wp2_with fail
  refine HA.out.mono ?_
  rintro e w1 ⟨rfl, rfl⟩
  go_wp2_with fail
  go_loop [5, 4, 13] (fun r q i => i = .int .i64 0 ∧ q = .int .i64 0 ∧ r = .int .i64 0) (fun _ _ _ => 0)
  case atStart => exact ⟨rfl, rfl, rfl⟩
  case round =>
    obtain ⟨rfl, rfl, rfl⟩ := hrel
    go_wp2_with fail
    refine (HW.out _ _ (by simp [go_sem])).mono ?_
    rintro e w1 ⟨rfl, rfl⟩
    go_wp2_with fail
    refine (HB.out _ _ (by simp [go_sem])).mono ?_
    rintro e w1 ⟨rfl, rfl⟩
    go_wp2_with fail
    go_ret2
    refine ⟨rfl, by repeat (first | exact Below.refl _ _ | (refine Below.alloc ?_ (by first | omega | (simp; done) | (simp; omega)) _))⟩
theorem moneySum_any (a : Addr) (n cap : Nat) (f : Nat → Int) (hn : n ≤ 500) (w : World) (hc : ∀ j, j < n → w.cell? (a.add j) = some (.int .i64 (f j))) :
    Calls Try.prog 26 #[.slice (some a) n cap] w fun e w' => e = .returned (.tuple #[.int .i64 (suV f n), .int .i64 (suE f n)]) ∧ Below w.heap.size w w' :=
  moneySum_some a n cap f (by omega) w hc
end Go.Proofs.Ytnjegnmkabnkkaa
