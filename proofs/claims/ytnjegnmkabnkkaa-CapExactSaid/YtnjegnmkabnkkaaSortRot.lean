/- What the library's exchange of two stretches and its turning about of two neighbouring stretches do to a list. Condition: the list is the call's own. -/
import Derived.Test.YtnjegnmkabnkkaaSortIns
namespace Go.Proofs.Ytnjegnmkabnkkaa
open Go.RowKit

theorem SortAt.same {W0 w : World} {BO n : Nat} {f g : Nat → Nat} (h : SortAt W0 w BO n f) (e : ∀ i, g i = f i) : SortAt W0 w BO n g := by
  rw [show g = f from funext e]; exact h

set_option maxRecDepth 100000 in
set_option maxHeartbeats 1600000 in
theorem swapRange_any {W0 : World} {BO n : Nat} (few : n ≤ 1000) (f : Nat → Nat) (a b k cp : Nat) (hab : a + k ≤ b) (hb : b + k ≤ n) (u : Value) (w : World) (h : SortAt W0 w BO n f) :
    Calls Try.prog 53 #[.slice (some ⟨BO, 0, none⟩) n cp, .int .i64 a, .int .i64 b, .int .i64 k, u] w fun e w' =>
      e = .returned (.tuple #[]) ∧ SortAt W0 w' BO n (fun x => f (swS a b k x)) := by
  have H0 := Lib.hid h
  clear h
  go_enter Try.func53, Try.ntmps53
  go_wp2_with fail
  go_loopw [10] (fun vi wr => ∃ i : Nat, vi = .int .i64 i ∧ i ≤ k ∧ Hid (SortAt W0 wr BO n (fun x => f (swS a b i x)))) (fun vi _ => k - (intOf vi).toNat)
  case atStart => exact ⟨0, by go_num, by omega, Lib.hid (H0.out.same (fun x => by rw [swS_none]))⟩
  case round =>
    obtain ⟨i, rfl, hik, hA⟩ := hrel
    by_cases hlt : i < k
    · have hN := Lib.hid ((hA.out.swap (a + i) (b + i) (by omega) (by omega)).same (g := fun x => f (swS a b (i + 1) x)) (fun x => by
        unfold swpF
        rw [← swS_next (by omega)]))
      have c1 := hA.out.cell (a + i) (by omega)
      have c2 := hA.out.cell (b + i) (by omega)
      have f1 := hA.out.soft (a + i) (by omega)
      have f2 := hA.out.soft (b + i) (by omega)
      have c3 := hA.out.cell2 (a + i) (b + i) (by omega) (by omega) (.int .i64 (f (swS a b i (b + i))))
      have b1 : (0 : Int) ≤ (a : Int) + (i : Int) := by omega
      have b2 : (a : Int) + (i : Int) < (n : Int) := by omega
      have b3 : (0 : Int) ≤ (b : Int) + (i : Int) := by omega
      have b4 : (b : Int) + (i : Int) < (n : Int) := by omega
      have w1 : IntKind.i64.wrap ((a : Int) + (i : Int)) = (a : Int) + (i : Int) := by rw [IntKind.wrap_i64]; omega
      have w2 : IntKind.i64.wrap ((b : Int) + (i : Int)) = (b : Int) + (i : Int) := by rw [IntKind.wrap_i64]; omega
      obtain ⟨p, hp⟩ : ∃ p, p = a + i := ⟨_, rfl⟩
      obtain ⟨q, hq⟩ : ∃ q, q = b + i := ⟨_, rfl⟩
      have t1 : ((a : Int) + (i : Int)).toNat = p := by omega
      have t2 : ((b : Int) + (i : Int)).toNat = q := by omega
      rw [← hp, ← hq] at c3 hN
      rw [← hp] at c1 f1
      rw [← hq] at c2 f2
      have hN2 := Lib.hid (hN.out.drewN 1)
      clear hA hN hp hq
      generalize f (swS a b i p) = x at *
      generalize f (swS a b i q) = y at *
      go_wp2_with fail
      go_big_region
      go_wp2_with fail
      go_roundw
      case rel => exact ⟨i + 1, by go_num, by omega, hN2⟩
      case measure => simp [intOf]; omega
    · obtain rfl : i = k := by omega
      go_wp2_with fail
      go_end0
      exact ⟨rfl, hA.out⟩

set_option maxRecDepth 100000 in
set_option maxHeartbeats 1600000 in
theorem rotate_any {W0 : World} {BO n : Nat} (few : n ≤ 1000) (f : Nat → Nat) (a m b cp : Nat) (ham : a < m) (hmb : m < b) (hb : b ≤ n) (u : Value) (w : World) (h : SortAt W0 w BO n f) :
    Calls Try.prog 51 #[.slice (some ⟨BO, 0, none⟩) n cp, .int .i64 a, .int .i64 m, .int .i64 b, u] w fun e w' =>
      e = .returned (.tuple #[]) ∧ SortAt W0 w' BO n (rotF f a m b) := by
  have H0 := Lib.hid h
  clear h
  have z1 : (m : Int) - (a : Int) = ((m - a : Nat) : Int) := by omega
  have z2 : (b : Int) - (m : Int) = ((b - m : Nat) : Int) := by omega
  go_enter Try.func51, Try.ntmps51
  go_wp2_with fail
  go_loopw [10, 11] (fun vi vj wr => ∃ (i j : Nat) (g : Nat → Nat), vi = .int .i64 i ∧ vj = .int .i64 j ∧ 1 ≤ i ∧ 1 ≤ j ∧ i ≤ m - a ∧ j ≤ b - m ∧ Hid (∀ x, g (rotS (m - i) m (m + j) x) = f (rotS a m b x)) ∧ Hid (SortAt W0 wr BO n g)) (fun vi vj _ => (intOf vi).toNat + (intOf vj).toNat)
  case atStart => exact ⟨m - a, b - m, f, by go_num, by go_num, by omega, by omega, by omega, by omega, Lib.hid (fun x => by rw [show m - (m - a) = a by omega, show m + (b - m) = b by omega]), H0⟩
  case round =>
    obtain ⟨i, j, g, rfl, rfl, hi1, hj1, hia, hjb, hG, hA⟩ := hrel
    clear z1 z2
    by_cases hij : i = j
    · subst hij
      have e0 : ((i : Int) != (i : Int)) = false := by simp
      have hS := swapRange_any few g (m - i) m i cp (by omega) (by omega) u wr hA.out
      rw [show ((m - i : Nat) : Int) = (m : Int) - (i : Int) by omega] at hS
      have HS := Lib.hid hS
      clear hS hA
      go_wp2_with fail
      refine HS.out.mono ?_
      rintro e w1 ⟨rfl, hF⟩
      go_wp2_with fail
      go_end0
      refine ⟨rfl, hF.same (fun x => ?_)⟩
      unfold rotF
      rw [← hG.out x, rot_even (by omega)]
    · have e0 : ((i : Int) != (j : Int)) = true := by simp; omega
      by_cases hlt : j < i
      · have d0 : decide ((j : Int) < (i : Int)) = true := decide_eq_true (by omega)
        have hS := swapRange_any few g (m - i) m j cp (by omega) (by omega) u wr hA.out
        rw [show ((m - i : Nat) : Int) = (m : Int) - (i : Int) by omega] at hS
        have HS := Lib.hid hS
        have hN := Lib.hid (show ∀ x, g (swS (m - i) m j (rotS (m - (i - j)) m (m + j) x)) = f (rotS a m b x) from fun x => by rw [rot_left hlt (by omega)]; exact hG.out x)
        have z1 : (i : Int) - (j : Int) = ((i - j : Nat) : Int) := by omega
        clear hS hA hG
        go_wp2_with fail
        refine HS.out.mono ?_
        rintro e w1 ⟨rfl, hF⟩
        have HF := Lib.hid hF
        clear hF HS
        go_wp2_with fail
        go_roundw
        case rel => exact ⟨i - j, j, _, by go_num, rfl, by omega, hj1, by omega, hjb, hN, HF⟩
        case measure => simp [intOf]; omega
      · have d0 : decide ((j : Int) < (i : Int)) = false := decide_eq_false (by omega)
        have hS := swapRange_any few g (m - i) (m + j - i) i cp (by omega) (by omega) u wr hA.out
        rw [show ((m - i : Nat) : Int) = (m : Int) - (i : Int) by omega, show ((m + j - i : Nat) : Int) = (m : Int) + (j : Int) - (i : Int) by omega] at hS
        have HS := Lib.hid hS
        have hN := Lib.hid (show ∀ x, g (swS (m - i) (m + j - i) i (rotS (m - i) m (m + (j - i)) x)) = f (rotS a m b x) from fun x => by rw [rot_right (by omega) (by omega)]; exact hG.out x)
        have z1 : (j : Int) - (i : Int) = ((j - i : Nat) : Int) := by omega
        clear hS hA hG
        go_wp2_with fail
        refine HS.out.mono ?_
        rintro e w1 ⟨rfl, hF⟩
        have HF := Lib.hid hF
        clear hF HS
        go_wp2_with fail
        go_roundw
        case rel => exact ⟨i, j - i, _, rfl, by go_num, hi1, by omega, hia, by omega, hN, HF⟩
        case measure => simp [intOf]; omega
end Go.Proofs.Ytnjegnmkabnkkaa
