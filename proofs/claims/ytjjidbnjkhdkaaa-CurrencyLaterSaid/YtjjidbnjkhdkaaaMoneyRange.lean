/- What the functions within, areAmounts of the package money return, for every list of numbers. Condition: the list's cells are known. -/
import Derived.Test.YtjjidbnjkhdkaaaMoneySpec
namespace Go.Proofs.Ytjjidbnjkhdkaaa
open Go.RowKit

/-- Are f 0 .. f (n - 1) all from lo to hi? -/
def allIn (lo hi : Int) (f : Nat → Int) : Nat → Bool
  | 0 => true
  | n + 1 => allIn lo hi f n && (decide (lo ≤ f n) && decide (f n ≤ hi))
theorem allIn_amt (f : Nat → Int) : ∀ n, allIn (-1000000000000) 1000000000000 f n = allAmt f n
  | 0 => rfl
  | n + 1 => by
    show (allIn _ _ f n && _) = (allAmt f n && amtB (f n))
    rw [allIn_amt f n]
    rfl
theorem allIn_bad {lo hi : Int} {f : Nat → Int} {k : Nat} (h : f k < lo ∨ hi < f k) : ∀ n, k < n → allIn lo hi f n = false
  | 0, hk => absurd hk (by omega)
  | n + 1, hk => by
    show (allIn lo hi f n && (decide (lo ≤ f n) && decide (f n ≤ hi))) = false
    by_cases e : k = n
    · subst e
      rcases h with h | h
      · rw [decide_eq_false (show ¬ lo ≤ f k by omega)]; simp
      · rw [decide_eq_false (show ¬ f k ≤ hi by omega)]; simp
    · rw [allIn_bad h n (by omega)]; rfl

set_option maxHeartbeats 800000 in
theorem within_some (lo hi : Int) (a : Addr) (n cap : Nat) (f : Nat → Int) (hn : n ≤ 9223372036854775807) (w : World) (hc : ∀ j, j < n → w.cell? (a.add j) = some (.int .i64 (f j))) :
    Calls Try.prog 39 #[.int .i64 lo, .int .i64 hi, .slice (some a) n cap] w fun e w' => e = .returned (.bool (allIn lo hi f n)) ∧ w = w' := by
  go_enter Try.func39, Try.ntmps39
  go_wp2
  go_loop [11] (fun i => ∃ k : Nat, k ≤ n ∧ i = .int .i64 k ∧ Hid (allIn lo hi f k = true)) (fun i => n - (intOf i).toNat)
  case atStart => exact ⟨0, Nat.zero_le _, rfl, Lib.hid rfl⟩
  case round =>
    obtain ⟨k, hk, rfl, hall⟩ := hrel
    by_cases hlt : k < n
    · have hcell := hc k hlt
      have hbad := Lib.hid (fun h => allIn_bad (lo := lo) (hi := hi) (f := f) (k := k) h n hlt)
      have hnext := Lib.hid (fun (h1 : lo ≤ f k) (h2 : f k ≤ hi) => show allIn lo hi f (k + 1) = true by
        show (allIn lo hi f k && (decide (lo ≤ f k) && decide (f k ≤ hi))) = true
        rw [hall.out, decide_eq_true h1, decide_eq_true h2]
        rfl)
      clear hall hc
      generalize f k = x at *
      by_cases h1 : x < lo
      · have c1 : decide (x < lo) = true := decide_eq_true h1
        go_wp2
        go_ret
        exact ⟨by rw [hbad.out (.inl h1)]; rfl, rfl⟩
      · by_cases h2 : hi < x
        · have c1 : decide (x < lo) = false := decide_eq_false h1
          have c2 : decide (hi < x) = true := decide_eq_true h2
          go_wp2
          go_ret
          exact ⟨by rw [hbad.out (.inr h2)]; rfl, rfl⟩
        · have hn2 := Lib.hid (hnext.out (by omega) (by omega))
          clear hbad hnext
          have c1 : decide (x < lo) = false := decide_eq_false h1
          have c2 : decide (hi < x) = false := decide_eq_false h2
          go_wp2
          go_round
          case rel => exact ⟨k + 1, by omega, by go_num, hn2⟩
          case measure => simp [intOf]; omega
    · have : k = n := by omega
      subst this
      go_wp2
      go_ret
      exact ⟨by rw [hall.out]; rfl, rfl⟩

set_option maxHeartbeats 400000 in
theorem within_nil (lo hi : Int) (w : World) : Calls Try.prog 39 #[.int .i64 lo, .int .i64 hi, .slice none 0 0] w fun e w' => e = .returned (.bool true) ∧ w = w' := by
  go_enter Try.func39, Try.ntmps39
  go_wp2
  go_loop [11] (fun i => i = .int .i64 0) (fun _ => 0)
  case atStart => rfl
  case round =>
    subst hrel
    go_wp2
    go_ret
    exact ⟨rfl, rfl⟩
/-- Lists of whatever length. -/
theorem within_any (lo hi : Int) (a : Option Addr) (n cap : Nat) (f : Nat → Int) (hn : n ≤ 9223372036854775807) (w : World) (hc : (a = none ∧ n = 0 ∧ cap = 0) ∨ ∃ b, a = some b ∧ ∀ j, j < n → w.cell? (b.add j) = some (.int .i64 (f j))) :
    Calls Try.prog 39 #[.int .i64 lo, .int .i64 hi, .slice a n cap] w fun e w' => e = .returned (.bool (allIn lo hi f n)) ∧ w = w' := by
  rcases hc with ⟨rfl, rfl, rfl⟩ | ⟨b, rfl, hc⟩
  · exact within_nil lo hi w
  · exact within_some lo hi b n cap f hn w hc

set_option maxHeartbeats 400000 in
theorem areAmounts_any (a : Option Addr) (n cap : Nat) (f : Nat → Int) (hn : n ≤ 9223372036854775807) (w : World) (hc : (a = none ∧ n = 0 ∧ cap = 0) ∨ ∃ b, a = some b ∧ ∀ j, j < n → w.cell? (b.add j) = some (.int .i64 (f j))) :
    Calls Try.prog 38 #[.slice a n cap] w fun e w' => e = .returned (.bool (allAmt f n)) ∧ w = w' := by
  have h := Lib.hid (within_any (-1000000000000) 1000000000000 a n cap f hn w hc)
  rw [allIn_amt] at h
  go_enter Try.func38, Try.ntmps38
  go_wp2_with fail
  refine h.out.mono ?_
  rintro e w1 ⟨rfl, rfl⟩
  go_wp2_with fail
  go_ret
  exact ⟨rfl, rfl⟩
end Go.Proofs.Ytjjidbnjkhdkaaa
