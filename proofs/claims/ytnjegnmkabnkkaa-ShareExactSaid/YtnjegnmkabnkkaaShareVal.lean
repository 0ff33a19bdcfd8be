/- What the functions inRange, validate and divisionBy of the package apportion return. Condition: the list's cells are known. -/
import Derived.Test.YtnjegnmkabnkkaaShareRef2
namespace Go.Proofs.Ytnjegnmkabnkkaa
open Go.RowKit

theorem inRange_any (x : Int) (w : World) : Calls Try.prog 28 #[.int .i64 x] w fun e w' => e = .returned (.bool (decide (0 ≤ x) && decide (x ≤ 1000000000000))) ∧ w = w' := by
  by_cases h1 : 0 ≤ x
  · have d1 : decide (0 ≤ x) = true := decide_eq_true h1
    rw [d1, Bool.true_and]
    go_enter Try.func28, Try.ntmps28
    go_wp2_with fail
    go_ret
    exact ⟨rfl, rfl⟩
  · have d1 : decide (0 ≤ x) = false := decide_eq_false h1
    rw [d1, Bool.false_and]
    go_enter Try.func28, Try.ntmps28
    go_wp2_with fail
    go_ret
    exact ⟨rfl, rfl⟩

/-- The error that Share and Cap have in common. -/
def vaE (T : Int) (n : Nat) (g : Nat → Int) : Int := if 1000 < n then 8 else if badB T g n then 2 else 0
theorem vaE_sh (T : Int) (n : Nat) (g : Nat → Int) : (vaE T n g ≠ 0 → shE T n g = vaE T n g) ∧ (vaE T n g = 0 → n ≤ 1000 ∧ 0 ≤ T ∧ T ≤ 1000000000000 ∧ amts0 g n = true ∧ shE T n g = if n = 0 ∧ 0 < T then 7 else 0) := by
  unfold vaE shE
  by_cases h1 : 1000 < n
  · rw [if_pos h1, if_pos h1]
    exact ⟨fun _ => rfl, fun h => absurd h (by omega)⟩
  · rw [if_neg h1, if_neg h1]
    by_cases h2 : badB T g n = true
    · rw [if_pos h2, if_pos ((badB_iff T g n).1 h2)]
      exact ⟨fun _ => rfl, fun h => absurd h (by omega)⟩
    · have h3 : ¬ (T < 0 ∨ 1000000000000 < T ∨ amts0 g n = false) := fun x => h2 ((badB_iff T g n).2 x)
      rw [if_neg h2, if_neg h3]
      refine ⟨fun h => absurd rfl h, fun _ => ⟨by omega, by omega, by omega, ?_, rfl⟩⟩
      cases ha : amts0 g n with
      | true => rfl
      | false => exact absurd (.inr (.inr ha)) h3

set_option maxRecDepth 100000 in
set_option maxHeartbeats 800000 in
theorem validate_any (T : Int) (v : Value) (n : Nat) (g : Nat → Int) (w : World) (h : ListAt w .i64 v n g) :
    Calls Try.prog 20 #[.int .i64 T, v] w fun e w' => e = .returned (.int .i64 (vaE T n g)) ∧ w = w' := by
  have HR := Lib.hid (fun (x : Int) (w : World) => inRange_any x w)
  by_cases h1 : 1000 < n
  · rw [show vaE T n g = 8 from if_pos h1]
    rcases h with ⟨rfl, rfl⟩ | ⟨a, cap, rfl, q1, q2, q3⟩
    · omega
    · have d1 : decide ((1000 : Int) < (n : Int)) = true := decide_eq_true (by omega)
      clear HR q3
      go_enter Try.func20, Try.ntmps20
      go_wp2_with fail
      go_ret
      exact ⟨rfl, rfl⟩
  · by_cases hT : (decide (0 ≤ T) && decide (T ≤ 1000000000000)) = false
    · have hb : badB T g n = true := (badB_iff T g n).2 (by
        rw [Bool.and_eq_false_iff, decide_eq_false_iff_not, decide_eq_false_iff_not] at hT
        omega)
      rw [show vaE T n g = 2 from (if_neg h1).trans (if_pos hb)]
      have HT := HR.out T
      rw [hT] at HT
      have HT2 := Lib.hid HT
      clear hT hb HT HR
      rcases h with ⟨rfl, rfl⟩ | ⟨a, cap, rfl, q1, q2, q3⟩
      · go_enter Try.func20, Try.ntmps20
        go_wp2_with fail
        refine (HT2.out _).mono ?_
        rintro e w1 ⟨rfl, rfl⟩
        go_wp2_with fail
        go_ret
        exact ⟨rfl, rfl⟩
      · have d1 : decide ((1000 : Int) < (n : Int)) = false := decide_eq_false (by omega)
        clear q3
        go_enter Try.func20, Try.ntmps20
        go_wp2_with fail
        refine (HT2.out _).mono ?_
        rintro e w1 ⟨rfl, rfl⟩
        go_wp2_with fail
        go_ret
        exact ⟨rfl, rfl⟩
    · have hT1 : (decide (0 ≤ T) && decide (T ≤ 1000000000000)) = true := by simpa using hT
      have hT2 : 0 ≤ T ∧ T ≤ 1000000000000 := by simpa using hT1
      have HT := HR.out T
      rw [hT1] at HT
      have HT2 := Lib.hid HT
      have hva : vaE T n g = if amts0 g n then 0 else 2 := by
        unfold vaE badB
        rw [if_neg h1, decide_eq_false (show ¬ T < 0 by omega), decide_eq_false (show ¬ 1000000000000 < T by omega)]
        cases amts0 g n <;> rfl
      rw [hva]
      clear hT hT1 HT hva
      rcases h with ⟨rfl, rfl⟩ | ⟨a, cap, rfl, q1, q2, q3⟩
      · have e0 : (if amts0 g 0 then (0 : Int) else 2) = 0 := rfl
        rw [e0]
        clear e0
        go_enter Try.func20, Try.ntmps20
        go_wp2_with fail
        refine (HT2.out _).mono ?_
        rintro e w1 ⟨rfl, rfl⟩
        go_wp2_with fail
        go_loop [15] (fun vi => vi = .int .i64 0) (fun _ => 0)
        case atStart => rfl
        case round =>
          subst hrel
          go_wp2_with fail
          go_ret
          exact ⟨rfl, rfl⟩
      · have d1 : decide ((1000 : Int) < (n : Int)) = false := decide_eq_false (by omega)
        have hc := fun i hi => (q3 i hi).1
        have hno := Lib.hid (fun k (hk : k < n) (h : g k < 0 ∨ 1000000000000 < g k) => amts0_no h n hk)
        have hyes := Lib.hid (fun (h : ∀ i, i < n → 0 ≤ g i ∧ g i ≤ 1000000000000) => amts0_of h)
        obtain ⟨B, hB⟩ : ∃ B, B = amts0 g n := ⟨_, rfl⟩
        rw [← hB] at hno hyes ⊢
        clear q3 hB
        go_enter Try.func20, Try.ntmps20
        go_wp2_with fail
        refine (HT2.out _).mono ?_
        rintro e w1 ⟨rfl, rfl⟩
        clear HT2
        go_wp2_with fail
        go_loop [15] (fun vi => ∃ k : Nat, k ≤ n ∧ vi = .int .i64 k ∧ Hid (∀ i, i < k → 0 ≤ g i ∧ g i ≤ 1000000000000)) (fun vi => n - (intOf vi).toNat)
        case atStart => exact ⟨0, by omega, by go_num, Lib.hid (fun i hi => absurd hi (by omega))⟩
        case round =>
          obtain ⟨k, hk, rfl, hA⟩ := hrel
          by_cases hlt : k < n
          · have hcell := hc k hlt
            have HX := HR.out (g k)
            by_cases hx : (decide (0 ≤ g k) && decide (g k ≤ 1000000000000)) = true
            · have hx2 : 0 ≤ g k ∧ g k ≤ 1000000000000 := by simpa using hx
              rw [hx] at HX
              have HX2 := Lib.hid HX
              have HN : Hid (∀ i, i < k + 1 → 0 ≤ g i ∧ g i ≤ 1000000000000) := Lib.hid (fun i hi => by
                by_cases e : i = k
                · rw [e]; exact hx2
                · exact hA.out i (by omega))
              clear hx hx2 HX hA hc HR hno hyes
              generalize g k = x at hcell HX2
              go_wp2_with fail
              refine (HX2.out _).mono ?_
              rintro e w2 ⟨rfl, rfl⟩
              go_wp2_with fail
              go_round
              case rel => exact ⟨k + 1, by omega, by go_num, HN⟩
              case measure => simp [intOf]; omega
            · have hx1 : (decide (0 ≤ g k) && decide (g k ≤ 1000000000000)) = false := by simpa using hx
              have hx2 : g k < 0 ∨ 1000000000000 < g k := by
                rw [Bool.and_eq_false_iff, decide_eq_false_iff_not, decide_eq_false_iff_not] at hx1
                omega
              rw [hx1] at HX
              have HX2 := Lib.hid HX
              have hBf := hno.out k hlt hx2
              subst hBf
              clear hx hx1 hx2 HX hA hc HR hno hyes
              generalize g k = x at hcell HX2
              go_wp2_with fail
              refine (HX2.out _).mono ?_
              rintro e w2 ⟨rfl, rfl⟩
              go_wp2_with fail
              go_ret
              exact ⟨rfl, rfl⟩
          · obtain rfl : k = n := by omega
            have hBt := hyes.out hA.out
            subst hBt
            clear hA hc HR hno hyes
            go_wp2_with fail
            go_ret
            exact ⟨rfl, rfl⟩
end Go.Proofs.Ytnjegnmkabnkkaa
