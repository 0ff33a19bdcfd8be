/- What the comparisons of the landed package currency return, for every two rows of a table. No condition. -/
import Derived.Test.YtjjidbnjkhdkaaaCurTab
import Derived.Deep.RegionHeld3
namespace Go.Proofs.Ytjjidbnjkhdkaaa
open Go.RowKit

theorem bytes_flip : ∀ (x y : List UInt8), Op.bytesLess x y = !(Op.bytesLess y x || y == x)
  | [], [] => rfl
  | [], _ :: _ => rfl
  | _ :: _, [] => rfl
  | a :: x, b :: y => by
    have ih := bytes_flip x y
    show (decide (a < b) || (a == b && Op.bytesLess x y)) = !((decide (b < a) || (b == a && Op.bytesLess y x)) || (b == a && y == x))
    rcases Nat.lt_trichotomy a.toNat b.toNat with h | h | h
    · have h1 : a < b := UInt8.lt_iff_toNat_lt.2 h
      have h2 : ¬ b < a := fun c => by have := UInt8.lt_iff_toNat_lt.1 c; omega
      have h3 : (b == a) = false := by rw [beq_eq_false_iff_ne]; intro c; rw [c] at h; omega
      rw [decide_eq_true h1, decide_eq_false h2, h3]
      rfl
    · have h1 : a = b := UInt8.toNat_inj.1 h
      subst h1
      have h2 : ¬ a < a := fun c => by have := UInt8.lt_iff_toNat_lt.1 c; omega
      rw [decide_eq_false h2, ih]
      simp
    · have h1 : ¬ a < b := fun c => by have := UInt8.lt_iff_toNat_lt.1 c; omega
      have h2 : b < a := UInt8.lt_iff_toNat_lt.2 h
      have h3 : (a == b) = false := by rw [beq_eq_false_iff_ne]; intro c; rw [c] at h; omega
      rw [decide_eq_false h1, decide_eq_true h2, h3]
      rfl

/-- Minus one, nought or one: the order of two texts, of two numbers. -/
def cmpS (x y : ByteArray) : Int := if Op.bytesLess x.toList y.toList = true then -1 else if (x.toList == y.toList) = true then 0 else 1
def cmpI (a b : Int) : Int := if a < b then -1 else if b < a then 1 else 0
/-- The order of two rows: by currency, then by day. -/
def cmpR (x y : ByteArray) (a b : Int) : Int := if cmpS x y = 0 then cmpI a b else cmpS x y
/-- A row does not come after the one before it: the reference's words. -/
theorem cmpR_nonneg (p x : ByteArray) (a b : Int) : decide (0 ≤ cmpR p x a b) = (Op.bytesLess x.toList p.toList || ((x.toList == p.toList) && decide (b ≤ a))) := by
  have hf := bytes_flip p.toList x.toList
  have hg := bytes_flip x.toList p.toList
  have hs : (p.toList == x.toList) = (x.toList == p.toList) := by rw [Bool.eq_iff_iff, beq_iff_eq, beq_iff_eq]; exact eq_comm
  unfold cmpR cmpS
  rw [hs] at hg ⊢
  cases hL : Op.bytesLess x.toList p.toList <;> cases hE : (x.toList == p.toList) <;> rw [hL, hE] at hf <;> rw [hL, hE] at hg <;> rw [hf] <;> simp at hf hg ⊢
  · unfold cmpI
    by_cases h1 : a < b
    · simp [h1]
    · by_cases h2 : b < a
      · simp [h1, h2]
        omega
      · simp [h1, h2]
        omega

theorem noNaN_int (a : Int) (w : World) : Calls Try.prog 44 #[.int .i64 a] w fun e w' => e = .returned (.bool false) ∧ w = w' := by
  have h0 : (a != a) = false := by simp
  go_enter Try.func44, Try.ntmps44
  go_wp2_with fail
  go_ret
  exact ⟨rfl, rfl⟩
theorem noNaN_str (a : ByteArray) (w : World) : Calls Try.prog 43 #[.string a] w fun e w' => e = .returned (.bool false) ∧ w = w' := by
  have h0 : (a.toList == a.toList) = true := by simp
  go_enter Try.func43, Try.ntmps43
  go_wp2_with fail
  go_ret
  exact ⟨by simp, rfl⟩

theorem compare_int (a b : Int) (w : World) : Calls Try.prog 37 #[.int .i64 a, .int .i64 b] w fun e w' => e = .returned (.int .i64 (cmpI a b)) ∧ w = w' := by
  have n1 := Lib.hid (noNaN_int a)
  have n2 := Lib.hid (noNaN_int b)
  obtain ⟨e1, hc⟩ : ∃ e, e = cmpI a b := ⟨_, rfl⟩
  rw [← hc]
  unfold cmpI at hc
  obtain ⟨b1, h1⟩ : ∃ b1, decide (a < b) = b1 := ⟨_, rfl⟩
  obtain ⟨b2, h2⟩ : ∃ b2, decide (b < a) = b2 := ⟨_, rfl⟩
  have hr : e1 = if b1 = true then -1 else if b2 = true then 1 else 0 := by
    rw [hc, ← h1, ← h2]
    simp only [decide_eq_true_eq]
  clear hc
  cases b1 with
  | true =>
    replace hr : e1 = -1 := hr
    subst hr
    clear h2
    go_enter Try.func37, Try.ntmps37
    go_wp2_with fail
    refine (n1.out _).mono ?_
    rintro e w1 ⟨rfl, rfl⟩
    go_wp2_with fail
    refine (n2.out _).mono ?_
    rintro e w1 ⟨rfl, rfl⟩
    go_wp2_with fail
    go_ret
    exact ⟨rfl, rfl⟩
  | false =>
    cases b2 with
    | true =>
      replace hr : e1 = 1 := hr
      subst hr
      go_enter Try.func37, Try.ntmps37
      go_wp2_with fail
      refine (n1.out _).mono ?_
      rintro e w1 ⟨rfl, rfl⟩
      go_wp2_with fail
      refine (n2.out _).mono ?_
      rintro e w1 ⟨rfl, rfl⟩
      go_wp2_with fail
      go_ret
      exact ⟨rfl, rfl⟩
    | false =>
      replace hr : e1 = 0 := hr
      subst hr
      go_enter Try.func37, Try.ntmps37
      go_wp2_with fail
      refine (n1.out _).mono ?_
      rintro e w1 ⟨rfl, rfl⟩
      go_wp2_with fail
      refine (n2.out _).mono ?_
      rintro e w1 ⟨rfl, rfl⟩
      go_wp2_with fail
      go_ret
      exact ⟨rfl, rfl⟩

theorem compare_str (a b : ByteArray) (w : World) : Calls Try.prog 36 #[.string a, .string b] w fun e w' => e = .returned (.int .i64 (cmpS a b)) ∧ w = w' := by
  have n1 := Lib.hid (noNaN_str a)
  have n2 := Lib.hid (noNaN_str b)
  obtain ⟨b1, h1⟩ : ∃ b1, Op.bytesLess a.toList b.toList = b1 := ⟨_, rfl⟩
  obtain ⟨b2, h2⟩ : ∃ b2, (a.toList == b.toList) = b2 := ⟨_, rfl⟩
  obtain ⟨e1, hr⟩ : ∃ e, e = cmpS a b := ⟨_, rfl⟩
  rw [← hr]
  unfold cmpS at hr
  rw [h1, h2] at hr
  cases b1 with
  | true =>
    replace hr : e1 = -1 := hr
    subst hr
    clear h2
    go_enter Try.func36, Try.ntmps36
    go_wp2_with fail
    refine (n1.out _).mono ?_
    rintro e w1 ⟨rfl, rfl⟩
    go_wp2_with fail
    refine (n2.out _).mono ?_
    rintro e w1 ⟨rfl, rfl⟩
    go_wp2_with fail
    go_ret
    exact ⟨rfl, rfl⟩
  | false =>
    cases b2 with
    | true =>
      replace hr : e1 = 0 := hr
      subst hr
      go_enter Try.func36, Try.ntmps36
      go_wp2_with fail
      refine (n1.out _).mono ?_
      rintro e w1 ⟨rfl, rfl⟩
      go_wp2_with fail
      refine (n2.out _).mono ?_
      rintro e w1 ⟨rfl, rfl⟩
      go_wp2_with fail
      go_ret
      exact ⟨rfl, rfl⟩
    | false =>
      replace hr : e1 = 1 := hr
      subst hr
      go_enter Try.func36, Try.ntmps36
      go_wp2_with fail
      refine (n1.out _).mono ?_
      rintro e w1 ⟨rfl, rfl⟩
      go_wp2_with fail
      refine (n2.out _).mono ?_
      rintro e w1 ⟨rfl, rfl⟩
      go_wp2_with fail
      go_ret
      exact ⟨rfl, rfl⟩

/-- The first of two numbers that is not nought. -/
def orI (u v : Int) : Int := if u = 0 then v else u
theorem or_two (u v : Int) (b : Nat) (w : World) (h0 : w.cell? ⟨b, 0, none⟩ = some (.int .i64 u)) (h1 : w.cell? ⟨b, 1, none⟩ = some (.int .i64 v)) :
    Calls Try.prog 35 #[.slice (some ⟨b, 0, none⟩) 2 2] w fun e w' => e = .returned (.int .i64 (orI u v)) ∧ w = w' := by
  have hr : (u = 0 → orI u v = v) ∧ (u ≠ 0 → orI u v = u) := ⟨fun h => if_pos h, fun h => if_neg h⟩
  generalize orI u v = r at *
  go_enter Try.func35, Try.ntmps35
  go_wp2_with fail
  go_loop [8] (fun vi => vi = .int .i64 0 ∨ (vi = .int .i64 1 ∧ u = 0) ∨ (vi = .int .i64 2 ∧ u = 0 ∧ v = 0)) (fun vi => 2 - (intOf vi).toNat)
  case atStart => exact .inl rfl
  case round =>
    rcases hrel with rfl | ⟨rfl, rfl⟩ | ⟨rfl, rfl, rfl⟩
    · by_cases hu : u = 0
      · subst hu
        go_wp2_with fail
        go_round
        case rel => exact .inr (.inl ⟨rfl, by first | rfl | trivial⟩)
        case measure => simp [intOf]
      · obtain rfl := hr.2 hu
        have hb : (r != 0) = true := by rw [bne_iff_ne]; exact hu
        go_wp2_with fail
        go_ret
        exact ⟨rfl, rfl⟩
    · obtain rfl := hr.1 rfl
      by_cases hu : r = 0
      · subst hu
        go_wp2_with fail
        go_round
        case rel => exact .inr (.inr (by simp))
        case measure => simp [intOf]
      · have hb : (r != 0) = true := by rw [bne_iff_ne]; exact hu
        go_wp2_with fail
        go_ret
        exact ⟨rfl, rfl⟩
    · obtain rfl := hr.1 rfl
      go_wp2_with fail
      go_ret
      exact ⟨rfl, rfl⟩
end Go.Proofs.Ytjjidbnjkhdkaaa
