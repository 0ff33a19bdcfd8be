/- What Div, MulDiv and MulMod of the package exact return, and the same of their reference, for every input. No condition. -/
import Derived.Test.YtjjidbnjkhdkaaaDiv64
import Derived.Test.YtjjidbnjkhdkaaaRefDiv
namespace Go.Proofs.Ytjjidbnjkhdkaaa
open Go.RowKit

/-- Is a quotient q with remainder r rounded to q + 1, under rounding mode m? -/
def upN (q r c : Nat) (m : Int) : Bool :=
  if m = 1 then decide (0 < r) else if m = 2 then decide (c ≤ r + r) else if m = 3 then decide (c < r + r) || (decide (r + r = c) && decide (q % 2 = 1)) else false

set_option maxHeartbeats 400000 in
theorem rounds_any (q r c : Nat) (m : Int) (hq : q < 18446744073709551616) (hr : r < c) (hc : c < 18446744073709551616) (hm0 : 0 ≤ m) (hm : m ≤ 3) (w : World) :
    Calls Try.prog 50 #[.int .u64 q, .int .u64 r, .int .u64 c, .int .i64 m] w fun e w' => e = .returned (.bool (upN q r c m)) ∧ w = w' := by
  have e0 : (c : Int) - (r : Int) = ((c - r : Nat) : Int) := by omega
  have hcr : c - r < 18446744073709551616 := by omega
  obtain ⟨t, ht⟩ : ∃ t, t = c - r := ⟨_, rfl⟩
  rw [← ht] at e0 hcr
  have H := Lib.hid ht
  clear ht
  have o3 : cmpN r t = -1 ∧ r + r < c ∨ cmpN r t = 0 ∧ r + r = c ∨ cmpN r t = 1 ∧ c < r + r := by
    have := H.out
    unfold cmpN
    by_cases h1 : r < t
    · exact .inl ⟨if_pos h1, by omega⟩
    · by_cases h2 : t < r
      · exact .inr (.inr ⟨(if_neg h1).trans (if_pos h2), by omega⟩)
      · exact .inr (.inl ⟨(if_neg h1).trans (if_neg h2), by omega⟩)
  obtain h | h | h | h : m = 0 ∨ m = 1 ∨ m = 2 ∨ m = 3 := by omega
  all_goals
    subst h
    clear hm0 hm
  · go_enter Try.func50, Try.ntmps50
    go_wp2_with (go_at_call 53; refine (words_cmp _ _ _).mono ?_; rintro e w' ⟨rfl, rfl⟩)
    go_ret
    exact ⟨rfl, rfl⟩
  · rcases Nat.eq_zero_or_pos r with h0 | h0
    · have e1 : upN q r c 1 = false := by simp [upN, h0]
      have e2 : ((r : Int) != 0) = false := by simp [h0]
      rw [e1]
      clear e1 h0 o3
      go_enter Try.func50, Try.ntmps50
      go_wp2_with (go_at_call 53; refine (words_cmp _ _ _).mono ?_; rintro e w' ⟨rfl, rfl⟩)
      go_ret
      exact ⟨rfl, rfl⟩
    · have e1 : upN q r c 1 = true := by simp [upN, h0]
      have e2 : ((r : Int) != 0) = true := by simp; omega
      rw [e1]
      clear e1 o3
      go_enter Try.func50, Try.ntmps50
      go_wp2_with (go_at_call 53; refine (words_cmp _ _ _).mono ?_; rintro e w' ⟨rfl, rfl⟩)
      go_ret
      exact ⟨rfl, rfl⟩
  · rcases o3 with ⟨h1, h2⟩ | ⟨h1, h2⟩ | ⟨h1, h2⟩
    · have e1 : upN q r c 2 = false := by simp [upN]; omega
      rw [e1]
      clear e1
      go_enter Try.func50, Try.ntmps50
      go_wp2_with (go_at_call 53; refine (words_cmp _ _ _).mono ?_; rintro e w' ⟨rfl, rfl⟩)
      go_ret
      exact ⟨rfl, rfl⟩
    · have e1 : upN q r c 2 = true := by simp [upN]; omega
      rw [e1]
      have H2 := Lib.hid h2
      clear e1 h2
      go_enter Try.func50, Try.ntmps50
      go_wp2_with (go_at_call 53; refine (words_cmp _ _ _).mono ?_; rintro e w' ⟨rfl, rfl⟩)
      go_ret
      exact ⟨rfl, rfl⟩
    · have e1 : upN q r c 2 = true := by simp [upN]; omega
      rw [e1]
      clear e1
      go_enter Try.func50, Try.ntmps50
      go_wp2_with (go_at_call 53; refine (words_cmp _ _ _).mono ?_; rintro e w' ⟨rfl, rfl⟩)
      go_ret
      exact ⟨rfl, rfl⟩
  · rcases o3 with ⟨h1, h2⟩ | ⟨h1, h2⟩ | ⟨h1, h2⟩
    · have e1 : upN q r c 3 = false := by simp [upN]; omega
      rw [e1]
      clear e1
      go_enter Try.func50, Try.ntmps50
      go_wp2_with (go_at_call 53; refine (words_cmp _ _ _).mono ?_; rintro e w' ⟨rfl, rfl⟩)
      go_ret
      exact ⟨rfl, rfl⟩
    · have e1 : upN q r c 3 = decide (q % 2 = 1) := by simp [upN, h2]
      have e2 : ((q : Int) % 2 == 1) = decide (q % 2 = 1) := by rw [Bool.eq_iff_iff]; simp; omega
      rw [e1]
      have H2 := Lib.hid h2
      clear e1 h2
      generalize decide (q % 2 = 1) = odd at *
      go_enter Try.func50, Try.ntmps50
      go_wp2_with (go_at_call 53; refine (words_cmp _ _ _).mono ?_; rintro e w' ⟨rfl, rfl⟩)
      go_ret
      exact ⟨rfl, rfl⟩
    · have e1 : upN q r c 3 = true := by simp [upN]; omega
      rw [e1]
      clear e1
      go_enter Try.func50, Try.ntmps50
      go_wp2_with (go_at_call 53; refine (words_cmp _ _ _).mono ?_; rintro e w' ⟨rfl, rfl⟩)
      go_ret
      exact ⟨rfl, rfl⟩

/-- What a division returns: the rounded quotient and the error. -/
def divUp (n c : Nat) (m : Int) : Nat := n / c + (if upN (n / c) (n % c) c m then 1 else 0)
def divV (n c : Nat) (m : Int) : Nat := if c = 0 ∨ m < 0 ∨ 3 < m then 0 else if 18446744073709551616 ≤ divUp n c m then 0 else divUp n c m
def divE (n c : Nat) (m : Int) : Int := if c = 0 ∨ m < 0 ∨ 3 < m then 2 else if 18446744073709551616 ≤ divUp n c m then 3 else 0

theorem div_bad (n c : Nat) (m : Int) (h : c = 0 ∨ m < 0 ∨ 3 < m) : divV n c m = 0 ∧ divE n c m = 2 := ⟨if_pos h, if_pos h⟩
theorem div_big (n c : Nat) (m : Int) (h : ¬ (c = 0 ∨ m < 0 ∨ 3 < m)) (h2 : 18446744073709551616 ≤ divUp n c m) : divV n c m = 0 ∧ divE n c m = 3 :=
  ⟨(if_neg h).trans (if_pos h2), (if_neg h).trans (if_pos h2)⟩
theorem div_fits (n c : Nat) (m : Int) (h : ¬ (c = 0 ∨ m < 0 ∨ 3 < m)) (h2 : divUp n c m < 18446744073709551616) : divV n c m = divUp n c m ∧ divE n c m = 0 :=
  ⟨(if_neg h).trans (if_neg (by omega)), (if_neg h).trans (if_neg (by omega))⟩
theorem divV_lt (n c : Nat) (m : Int) : divV n c m < 18446744073709551616 := by
  unfold divV
  split
  · omega
  · split <;> omega

set_option maxHeartbeats 400000 in
theorem div_any (hi lo c : Nat) (m : Int) (h2 : lo < 18446744073709551616) (h3 : c < 18446744073709551616) (w : World) :
    Calls Try.prog 45 #[.agg #[.int .u64 hi, .int .u64 lo], .int .u64 c, .int .i64 m] w fun e w' =>
      e = .returned (.tuple #[.int .u64 (divV (hi * 18446744073709551616 + lo) c m), .int .i64 (divE (hi * 18446744073709551616 + lo) c m)]) ∧ Below w.heap.size w w' := by
  by_cases hb : c = 0 ∨ m < 0 ∨ 3 < m
  · rw [(div_bad (hi * 18446744073709551616 + lo) c m hb).1, (div_bad (hi * 18446744073709551616 + lo) c m hb).2]
    by_cases hc : c = 0
    · have e1 : ((c : Int) == 0) = true := by rw [beq_iff_eq]; omega
      clear hb hc
      go_enter Try.func45, Try.ntmps45
      go_wp2
      go_ret2
      exact ⟨rfl, by repeat (first | exact Below.refl _ _ | (refine Below.setCell ?_ (by first | omega | (simp; done) | (simp; omega)) _) | (refine below_drewN ?_ _) | (refine Below.alloc ?_ (by first | omega | (simp; done) | (simp; omega)) _) | (refine Below.trans ?_ (Below.mono (by assumption) (by first | omega | (simp; done) | (simp; omega)))))⟩
    · have e1 : ((c : Int) == 0) = false := by rw [beq_eq_false_iff_ne]; omega
      by_cases hm : m < 0
      · clear hb hc
        go_enter Try.func45, Try.ntmps45
        go_wp2
        go_ret2
        exact ⟨rfl, by repeat (first | exact Below.refl _ _ | (refine Below.setCell ?_ (by first | omega | (simp; done) | (simp; omega)) _) | (refine below_drewN ?_ _) | (refine Below.alloc ?_ (by first | omega | (simp; done) | (simp; omega)) _) | (refine Below.trans ?_ (Below.mono (by assumption) (by first | omega | (simp; done) | (simp; omega)))))⟩
      · have hm3 : 3 < m := by omega
        clear hb hc
        go_enter Try.func45, Try.ntmps45
        go_wp2
        go_ret2
        exact ⟨rfl, by repeat (first | exact Below.refl _ _ | (refine Below.setCell ?_ (by first | omega | (simp; done) | (simp; omega)) _) | (refine below_drewN ?_ _) | (refine Below.alloc ?_ (by first | omega | (simp; done) | (simp; omega)) _) | (refine Below.trans ?_ (Below.mono (by assumption) (by first | omega | (simp; done) | (simp; omega)))))⟩
  · have hc : 0 < c := by omega
    have hm0 : 0 ≤ m := by omega
    have hm3 : m ≤ 3 := by omega
    have e1 : ((c : Int) == 0) = false := by rw [beq_eq_false_iff_ne]; omega
    obtain ⟨n, hn⟩ : ∃ n, n = hi * 18446744073709551616 + lo := ⟨_, rfl⟩
    rw [← hn]
    rcases Nat.lt_or_ge hi c with hlt | hge
    · have hq : n / c < 18446744073709551616 := by
        apply Nat.div_lt_of_lt_mul
        have : (hi + 1) * 18446744073709551616 ≤ c * 18446744073709551616 := Nat.mul_le_mul_right _ hlt
        omega
      have hr : n % c < c := Nat.mod_lt _ hc
      have hcall := fun w => div64_any hi lo c hlt h2 h3 w
      rw [← hn] at hcall
      have hround := fun w => rounds_any (n / c) (n % c) c m hq hr h3 hm0 hm3 w
      by_cases hu : upN (n / c) (n % c) c m = true
      · have hup : divUp n c m = n / c + 1 := by unfold divUp; rw [if_pos hu]
        rw [hu] at hround
        rcases Nat.lt_or_ge (divUp n c m) 18446744073709551616 with hf | hf
        · rw [(div_fits n c m hb hf).1, (div_fits n c m hb hf).2, hup]
          rw [hup] at hf
          change ∀ w, Calls _ _ _ _ (fun e w' => e = .returned (.tuple #[.int .u64 ((n / c : Nat) : Int), .int .u64 ((n % c : Nat) : Int)]) ∧ _) at hcall
          generalize n / c = q at *
          generalize n % c = r at *
          have HC := Lib.hid hcall
          have HR := Lib.hid hround
          clear hcall hround hu hup hn hb
          have e2 : ((q : Int) == 18446744073709551615) = false := by rw [beq_eq_false_iff_ne]; omega
          go_enter Try.func45, Try.ntmps45
          go_wp2_with fail
          refine (HC.out _).mono ?_
          rintro e w' ⟨rfl, k, rfl⟩
          go_wp2_with fail
          refine (HR.out _).mono ?_
          rintro e w' ⟨rfl, rfl⟩
          go_wp2_with fail
          go_ret2
          exact ⟨by simp, by repeat (first | exact Below.refl _ _ | (refine Below.setCell ?_ (by first | omega | (simp; done) | (simp; omega)) _) | (refine below_drewN ?_ _) | (refine Below.alloc ?_ (by first | omega | (simp; done) | (simp; omega)) _) | (refine Below.trans ?_ (Below.mono (by assumption) (by first | omega | (simp; done) | (simp; omega)))))⟩
        · rw [(div_big n c m hb hf).1, (div_big n c m hb hf).2]
          rw [hup] at hf
          change ∀ w, Calls _ _ _ _ (fun e w' => e = .returned (.tuple #[.int .u64 ((n / c : Nat) : Int), .int .u64 ((n % c : Nat) : Int)]) ∧ _) at hcall
          generalize n / c = q at *
          generalize n % c = r at *
          have HC := Lib.hid hcall
          have HR := Lib.hid hround
          clear hcall hround hu hup hn hb
          have e2 : ((q : Int) == 18446744073709551615) = true := by rw [beq_iff_eq]; omega
          clear hf
          go_enter Try.func45, Try.ntmps45
          go_wp2_with fail
          refine (HC.out _).mono ?_
          rintro e w' ⟨rfl, k, rfl⟩
          go_wp2_with fail
          refine (HR.out _).mono ?_
          rintro e w' ⟨rfl, rfl⟩
          go_wp2_with fail
          go_ret2
          exact ⟨by simp, by repeat (first | exact Below.refl _ _ | (refine Below.setCell ?_ (by first | omega | (simp; done) | (simp; omega)) _) | (refine below_drewN ?_ _) | (refine Below.alloc ?_ (by first | omega | (simp; done) | (simp; omega)) _) | (refine Below.trans ?_ (Below.mono (by assumption) (by first | omega | (simp; done) | (simp; omega)))))⟩
      · have hu' : upN (n / c) (n % c) c m = false := by simpa using hu
        have hup : divUp n c m = n / c := by unfold divUp; rw [if_neg hu]; rfl
        have hf : divUp n c m < 18446744073709551616 := by omega
        rw [(div_fits n c m hb hf).1, (div_fits n c m hb hf).2, hup]
        rw [hu'] at hround
        change ∀ w, Calls _ _ _ _ (fun e w' => e = .returned (.tuple #[.int .u64 ((n / c : Nat) : Int), .int .u64 ((n % c : Nat) : Int)]) ∧ _) at hcall
        generalize n / c = q at *
        generalize n % c = r at *
        have HC := Lib.hid hcall
        have HR := Lib.hid hround
        clear hcall hround hu hu' hup hn hb hf
        go_enter Try.func45, Try.ntmps45
        go_wp2_with fail
        refine (HC.out _).mono ?_
        rintro e w' ⟨rfl, k, rfl⟩
        go_wp2_with fail
        refine (HR.out _).mono ?_
        rintro e w' ⟨rfl, rfl⟩
        go_wp2_with fail
        go_ret2
        exact ⟨by simp, by repeat (first | exact Below.refl _ _ | (refine Below.setCell ?_ (by first | omega | (simp; done) | (simp; omega)) _) | (refine below_drewN ?_ _) | (refine Below.alloc ?_ (by first | omega | (simp; done) | (simp; omega)) _) | (refine Below.trans ?_ (Below.mono (by assumption) (by first | omega | (simp; done) | (simp; omega)))))⟩
    · have hf : 18446744073709551616 ≤ divUp n c m := by
        have h : 18446744073709551616 ≤ n / c := by
          rw [Nat.le_div_iff_mul_le hc]
          have : c * 18446744073709551616 ≤ hi * 18446744073709551616 := Nat.mul_le_mul_right _ hge
          omega
        exact Nat.le_trans h (Nat.le_add_right _ _)
      rw [(div_big n c m hb hf).1, (div_big n c m hb hf).2]
      clear hf hn hb
      go_enter Try.func45, Try.ntmps45
      go_wp2
      go_ret2
      exact ⟨rfl, by repeat (first | exact Below.refl _ _ | (refine Below.setCell ?_ (by first | omega | (simp; done) | (simp; omega)) _) | (refine below_drewN ?_ _) | (refine Below.alloc ?_ (by first | omega | (simp; done) | (simp; omega)) _) | (refine Below.trans ?_ (Below.mono (by assumption) (by first | omega | (simp; done) | (simp; omega)))))⟩
end Go.Proofs.Ytjjidbnjkhdkaaa
