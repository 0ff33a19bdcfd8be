/- What Valid, Working, NextWorking and AddWorking of the reference of layer 4 return. Condition: the list's cells are known. -/
import Derived.Test.YtnegiopbccllcaaDoorCalRef
import Derived.Handy
import Derived.Test.YtnegiopbccllcaaDoorInts
namespace Go.Proofs.YtnegiopbccllcaaDoor
open Go.RowKit

/-- The error of the list's first k elements. -/
def vlE (g : Nat → Int) : Nat → Int
  | 0 => 0
  | k + 1 => if vlE g k = 0 then (if dayB (g k) then (if 0 < k ∧ g k ≤ g (k - 1) then 9 else 0) else 2) else vlE g k
def validE (n : Nat) (g : Nat → Int) : Int := if 2000 < n then 8 else vlE g n
/-- Is it none of the first k elements? -/
def offB (g : Nat → Int) (x : Int) : Nat → Bool
  | 0 => true
  | k + 1 => offB g x k && !(g k == x)
def workB (n : Nat) (g : Nat → Int) (x : Int) : Bool := offB g x n && (dayB x && decide ((x + 5) % 7 ≤ 4))

theorem off_at (g : Nat → Int) (x : Int) (i : Nat) : ∀ n, i < n → (g i == x) = true → offB g x n = false
  | 0, h, _ => by omega
  | n + 1, h, hx => by
    show (offB g x n && !(g n == x)) = false
    by_cases e : i = n
    · subst e
      rw [hx]
      simp
    · rw [off_at g x i n (by omega) hx]
      rfl
theorem off_next {g : Nat → Int} {x : Int} {n : Nat} (h1 : offB g x n = true) (h2 : (g n == x) = false) : offB g x (n + 1) = true := by
  show (offB g x n && !(g n == x)) = true
  rw [h1, h2]
  rfl

set_option maxHeartbeats 800000 in
theorem refWorking_any (v : Value) (n : Nat) (g : Nat → Int) (x : Int) (w : World) (h : ListAt w .i64 v n g) :
    Calls Tryd.prog 26 #[v, .int .i64 x] w fun e w' => e = .returned (.bool (workB n g x)) ∧ w = w' := by
  have HW := Lib.hid (refWeekday_any x)
  have hWd : Hid ((decide (0 ≤ (if dayB x then (x + 5) % 7 else -1)) && decide ((if dayB x then (x + 5) % 7 else -1) ≤ 4)) = (dayB x && decide ((x + 5) % 7 ≤ 4))) := Lib.hid (by
    cases dayB x
    · simp
    · simp; omega)
  generalize (if dayB x then (x + 5) % 7 else -1) = W at *
  have hoff : Hid (∀ i, i < n → (g i == x) = true → workB n g x = false) := Lib.hid (fun i hi h2 => by
    unfold workB
    rw [off_at g x i n hi h2]
    rfl)
  have hon : Hid (offB g x n = true → workB n g x = (decide (0 ≤ W) && decide (W ≤ 4))) := Lib.hid (fun h => by
    unfold workB
    rw [h, hWd.out]
    rfl)
  generalize workB n g x = R at *
  clear hWd
  rcases h with ⟨rfl, rfl⟩ | ⟨a, cap, rfl, h1, h2, h3⟩
  · have e := hon.out rfl
    clear hon hoff
    subst e
    go_enter Tryd.func26, Tryd.ntmps26
    go_wp2_with fail
    refine (HW.out _).mono ?_
    rintro e w1 ⟨rfl, rfl⟩
    go_wp2_with fail
    go_loopw [6] (fun i wx => i = .int .i64 0 ∧ wx = w) (fun _ _ => 0)
    case atStart => exact ⟨rfl, by first | rfl | trivial⟩
    case round =>
      obtain ⟨rfl, rfl⟩ := hrel
      cases c1 : decide (0 ≤ W) with
      | true =>
        go_wp2_with fail
        go_ret
        simp at c1
        simp
        omega
      | false =>
        go_wp2_with fail
        go_ret
        simp at c1
        simp
        omega
  · have hn : n ≤ 9223372036854775807 := by unfold maxLen at *; omega
    go_enter Tryd.func26, Tryd.ntmps26
    go_wp2_with fail
    refine (HW.out _).mono ?_
    rintro e w1 ⟨rfl, rfl⟩
    go_wp2_with fail
    go_loopw [6] (fun i wx => ∃ k : Nat, k ≤ n ∧ i = .int .i64 (k : Int) ∧ Hid (offB g x k = true) ∧ wx = w) (fun i _ => n - (intOf i).toNat)
    case atStart => exact ⟨0, by omega, rfl, Lib.hid rfl, by first | rfl | trivial⟩
    case round =>
      obtain ⟨k, hk, rfl, ho, rfl⟩ := hrel
      by_cases hlt : k < n
      · have q := h3 k hlt
        have d1 : decide ((k : Int) < (n : Int)) = true := decide_eq_true (by omega)
        cases c : g k == x with
        | true =>
          have e := hoff.out k hlt c
          clear hon hoff ho
          subst e
          clear h3
          generalize g k = gk at *
          go_wp2_with fail
          go_ret
          exact ⟨rfl, by first | rfl | trivial⟩
        | false =>
          have ho2 := Lib.hid (off_next ho.out c)
          clear ho hon hoff h3
          generalize g k = gk at *
          go_wp2_with fail
          go_roundw
          case rel => exact ⟨k + 1, by omega, int_eq (by omega), ho2, by first | rfl | trivial⟩
          case measure => simp [intOf]; omega
      · obtain rfl : k = n := by omega
        have e := hon.out ho.out
        have d1 : decide ((k : Int) < (k : Int)) = false := decide_eq_false (by omega)
        clear hon hoff ho h3
        subst e
        cases c1 : decide (0 ≤ W) with
        | true =>
          go_wp2_with fail
          go_ret
          simp at c1
          simp
          omega
        | false =>
          go_wp2_with fail
          go_ret
          simp at c1
          simp
          omega

/-- Is the walk of a list's elements ended, and with which error? -/
theorem vl_step {g : Nat → Int} {k : Nat} (h : vlE g k = 0) (h1 : dayB (g k) = true) (h2 : ¬ (0 < k ∧ g k ≤ g (k - 1))) : vlE g (k + 1) = 0 := by
  show (if vlE g k = 0 then (if dayB (g k) then (if 0 < k ∧ g k ≤ g (k - 1) then 9 else 0) else 2) else vlE g k) = 0
  rw [if_pos h, if_pos h1, if_neg h2]
theorem vl_day {g : Nat → Int} {k : Nat} (h : vlE g k = 0) (h1 : dayB (g k) = false) : vlE g (k + 1) = 2 := by
  show (if vlE g k = 0 then (if dayB (g k) then (if 0 < k ∧ g k ≤ g (k - 1) then 9 else 0) else 2) else vlE g k) = 2
  rw [if_pos h, if_neg (by rw [h1]; simp)]
theorem vl_order {g : Nat → Int} {k : Nat} (h : vlE g k = 0) (h1 : dayB (g k) = true) (h2 : 0 < k ∧ g k ≤ g (k - 1)) : vlE g (k + 1) = 9 := by
  show (if vlE g k = 0 then (if dayB (g k) then (if 0 < k ∧ g k ≤ g (k - 1) then 9 else 0) else 2) else vlE g k) = 9
  rw [if_pos h, if_pos h1, if_pos h2]
theorem vl_stays {g : Nat → Int} {k : Nat} (h : vlE g k ≠ 0) : ∀ n, k ≤ n → vlE g n = vlE g k
  | 0, hn => by
    obtain rfl : k = 0 := by omega
    rfl
  | n + 1, hn => by
    by_cases e : k = n + 1
    · subst e; rfl
    · have ih := vl_stays h n (by omega)
      show (if vlE g n = 0 then _ else vlE g n) = vlE g k
      rw [if_neg (by rw [ih]; exact h), ih]

set_option maxHeartbeats 1600000 in
theorem refValid_any (v : Value) (n : Nat) (g : Nat → Int) (w : World) (h : ListAt w .i64 v n g) :
    Calls Tryd.prog 24 #[v] w fun e w' => e = .returned (.int .i64 (validE n g)) ∧ ∃ m, w' = w.drewN m := by
  rcases h with ⟨rfl, rfl⟩ | ⟨a, cap, rfl, h1, h2, h3⟩
  · go_enter Tryd.func24, Tryd.ntmps24
    go_wp2_with fail
    go_loopw [3] (fun i wx => i = .int .i64 0 ∧ wx = w) (fun _ _ => 0)
    case atStart => exact ⟨rfl, by first | rfl | trivial⟩
    case round =>
      obtain ⟨rfl, rfl⟩ := hrel
      go_wp2_with fail
      go_ret
      exact ⟨rfl, 0, by first | rfl | trivial⟩
  · have hn : n ≤ 9223372036854775807 := by unfold maxLen at *; omega
    by_cases hl : 2000 < n
    · have e : validE n g = 8 := if_pos hl
      have d1 : decide (2000 < (n : Int)) = true := decide_eq_true (by omega)
      rw [e]
      clear e hl
      go_enter Tryd.func24, Tryd.ntmps24
      go_wp2_with fail
      go_ret
      exact ⟨rfl, 0, rfl⟩
    · have e : validE n g = vlE g n := if_neg hl
      rw [e]
      clear e
      have hstop : Hid (∀ k r, k < n → vlE g (k + 1) = r → r ≠ 0 → vlE g n = r) := Lib.hid (fun k r hk h1 h2 => by
        rw [← h1]
        exact vl_stays (by rw [h1]; exact h2) n (by omega))
      have hend : Hid (∀ k, k = n → vlE g k = 0 → vlE g n = 0) := Lib.hid (fun k e h => by rw [← e]; exact h)
      have HD := Lib.hid (fun k => refDay_any (g k))
      generalize vlE g n = R at *
      have d1 : decide (2000 < (n : Int)) = false := decide_eq_false (by omega)
      go_enter Tryd.func24, Tryd.ntmps24
      go_wp2_with fail
      go_loopw [3] (fun i wx => ∃ k : Nat, k ≤ n ∧ i = .int .i64 (k : Int) ∧ Hid (vlE g k = 0) ∧ ∃ m, wx = w.drewN m) (fun i _ => n - (intOf i).toNat)
      case atStart => exact ⟨0, by omega, rfl, Lib.hid rfl, 0, rfl⟩
      case round =>
        obtain ⟨k, hk, rfl, ho, m, rfl⟩ := hrel
        by_cases hlt : k < n
        · have q := h3 k hlt
          have d2 : decide ((k : Int) < (n : Int)) = true := decide_eq_true (by omega)
          have hD := Lib.hid (HD.out k)
          clear HD hend
          cases c : dayB (g k) with
          | false =>
            have e := hstop.out k 2 hlt (vl_day ho.out c) (by decide)
            rw [c] at hD
            clear hstop ho
            subst e
            clear h3 c
            generalize g k = gk at *
            go_wp2_with fail
            refine (hD.out _).mono ?_
            rintro e w1 ⟨rfl, rfl⟩
            go_wp2_with fail
            go_ret
            exact ⟨rfl, _, by first | rfl | exact World.drewN_drewN _ _ _⟩
          | true =>
            rw [c] at hD
            by_cases hk0 : 0 < k
            · have q2 := h3 (k - 1) (by omega)
              have d3 : decide (0 < (k : Int)) = true := decide_eq_true (by omega)
              have e1 : (((k - 1 : Nat) : Int)) = (k : Int) - 1 := by omega
              by_cases hle : g k ≤ g (k - 1)
              · have e := hstop.out k 9 hlt (vl_order ho.out c ⟨hk0, hle⟩) (by decide)
                have d4 : decide (g k ≤ g (k - 1)) = true := decide_eq_true hle
                clear hstop ho
                subst e
                clear h3 c hle
                generalize g k = gk at *
                generalize g (k - 1) = gl at *
                go_wp2_with fail
                refine (hD.out _).mono ?_
                rintro e w1 ⟨rfl, rfl⟩
                go_wp2_with fail
                go_quiet (fail)
                go_wp2_with fail
                go_ret
                exact ⟨rfl, _, by first | rfl | exact World.drewN_drewN _ _ _⟩
              · have ho2 := Lib.hid (vl_step ho.out c (by omega))
                have d4 : decide (g k ≤ g (k - 1)) = false := decide_eq_false hle
                clear hstop ho h3 c hle
                generalize g k = gk at *
                generalize g (k - 1) = gl at *
                go_wp2_with fail
                refine (hD.out _).mono ?_
                rintro e w1 ⟨rfl, rfl⟩
                go_wp2_with fail
                go_quiet (fail)
                go_wp2_with fail
                go_roundw
                case rel => exact ⟨k + 1, by omega, int_eq (by omega), ho2, _, by first | rfl | exact World.drewN_drewN _ _ _⟩
                case measure => simp [intOf]; omega
            · have ho2 := Lib.hid (vl_step ho.out c (by omega))
              have d3 : decide (0 < (k : Int)) = false := decide_eq_false (by omega)
              clear hstop ho h3 c
              generalize g k = gk at *
              go_wp2_with fail
              refine (hD.out _).mono ?_
              rintro e w1 ⟨rfl, rfl⟩
              go_wp2_with fail
              go_quiet (fail)
              go_wp2_with fail
              go_roundw
              case rel => exact ⟨k + 1, by omega, int_eq (by omega), ho2, _, by first | rfl | exact World.drewN_drewN _ _ _⟩
              case measure => simp [intOf]; omega
        · obtain rfl : k = n := by omega
          have e := hend.out k rfl ho.out
          have d2 : decide ((k : Int) < (k : Int)) = false := decide_eq_false (by omega)
          clear hend hstop ho h3 HD
          subst e
          go_wp2_with fail
          go_ret
          exact ⟨rfl, _, by first | rfl | exact World.drewN_drewN _ _ _⟩
end Go.Proofs.YtnegiopbccllcaaDoor
