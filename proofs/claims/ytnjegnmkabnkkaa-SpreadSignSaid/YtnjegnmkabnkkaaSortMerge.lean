/- What the library's merge in place does to a list of numbers, under the package apportion's comparison. Condition: the list is the call's own. -/
import Derived.Test.YtnjegnmkabnkkaaSortRot
namespace Go.Proofs.Ytnjegnmkabnkkaa
open Go.RowKit

set_option maxRecDepth 100000 in
set_option maxHeartbeats 1600000 in
theorem merge_first {W0 : World} {C BR BO n cap : Nat} {r : Nat → Nat} (S : SortSeat W0 C BR BO n cap r) (f : Nat → Nat) (a b cp : Nat) (hab : a + 1 < b) (hb : b ≤ n) (hh : Halves r f a (a + 1) b) (w : World) (h : SortAt W0 w BO n f) :
    Calls Try.prog 48 #[.slice (some ⟨BO, 0, none⟩) n cp, .int .i64 a, .int .i64 ((a : Int) + 1), .int .i64 b, .func (.func 34) #[] #[.pointer (some ⟨C, 0, none⟩)]] w fun e w' =>
      e = .returned (.tuple #[]) ∧ ∃ g, Moved a b f g ∧ SortedOn r g a b ∧ SortAt W0 w' BO n g := by
  have few := S.few
  have HS := Lib.hid S
  have HH := Lib.hid hh
  have H0 := Lib.hid h
  have e0 : ((((a : Int) + 1 - (a : Int)) == 1) : Bool) = true := by rw [beq_iff_eq]; omega
  have e00 : (a : Int) + 1 - (a : Int) = 1 := by omega
  clear S hh h
  go_enter Try.func48, Try.ntmps48
  go_wp2_with fail
  go_loopw [10, 11] (fun vi vj wr => ∃ (i j : Nat), vi = .int .i64 i ∧ vj = .int .i64 j ∧ a + 1 ≤ i ∧ i ≤ j ∧ j ≤ b ∧ Hid (i = a + 1 ∨ r (f a) < r (f (i - 1))) ∧ Hid (j = b ∨ ¬ r (f a) < r (f j)) ∧ Hid (SortAt W0 wr BO n f)) (fun vi vj _ => (intOf vj).toNat - (intOf vi).toNat)
  case atStart => exact ⟨a + 1, b, by go_num, rfl, by omega, by omega, by omega, Lib.hid (.inl rfl), Lib.hid (.inl rfl), H0⟩
  case round =>
    obtain ⟨i, j, rfl, rfl, hai, hij, hjb, hL, hU, hA⟩ := hrel
    clear e0 e00
    by_cases hlt : i < j
    · obtain ⟨c, hc⟩ : ∃ c, c = (i + j) / 2 := ⟨_, rfl⟩
      have hc1 : i ≤ c := by omega
      have hc2 : c < j := by omega
      have hz : ((i : Int) + (j : Int)) / 2 = (c : Int) := by omega
      clear hc
      have l1 := fun m => (hA.out.drewN m).cell c (by omega)
      have l2 := fun m => (hA.out.drewN m).cell a (by omega)
      have HC := Lib.hid (hA.out.cmp HS.out c a (by omega) (by omega))
      have hcv := cmpD_neg (r (f a)) (r (f c))
      have N2 := Lib.hid (fun m => hA.out.drewN m)
      by_cases ht : r (f a) < r (f c)
      · rw [decide_eq_true ht] at hcv
        have NL := Lib.hid (show c + 1 = a + 1 ∨ r (f a) < r (f (c + 1 - 1)) from .inr ht)
        clear hA ht
        generalize f c = x at *
        generalize f a = y at *
        go_wp2_with fail
        go_quiet ((go_at_call 34; refine Calls.quiet_of (HC.out _)))
        have N3 := Lib.hid (N2.out nq)
        clear l1 l2 HC N2
        generalize wr.drewN nq = w2 at *
        go_wp2_with fail
        go_roundw
        case rel => exact ⟨c + 1, j, by go_num, rfl, by omega, by omega, hjb, NL, hU, N3⟩
        case measure => simp [intOf]; omega
      · rw [decide_eq_false ht] at hcv
        have NU : ∀ z, z = c → Hid (z = b ∨ ¬ r (f a) < r (f z)) := fun z hz => by rw [hz]; exact Lib.hid (.inr ht)
        clear hA ht
        generalize f c = x at *
        generalize f a = y at *
        go_wp2_with fail
        go_quiet ((go_at_call 34; refine Calls.quiet_of (HC.out _)))
        have N3 := Lib.hid (N2.out nq)
        clear l1 l2 HC N2
        generalize wr.drewN nq = w2 at *
        go_wp2_with fail
        go_roundw
        case rel => exact ⟨i, c, rfl, by go_num, hai, by omega, by omega, hL, NU c rfl, N3⟩
        case measure => simp [intOf]; omega
    · obtain rfl : i = j := by omega
      have hS := Lib.hid (merge_one HH.out hai hjb hL.out hU.out)
      have hM := Lib.hid ((rotF_moved f (Nat.le_succ a) hai).mono (Nat.le_refl a) hjb)
      have hA0 := Lib.hid (hA.out.same (g := rotF f a (a + 1) (a + 1)) (fun x => by unfold rotF; rw [(rot_one a a x (Nat.le_refl a)).1]))
      have z2 : (i : Int) - 1 = ((i - 1 : Nat) : Int) := by omega
      clear hL hU hA HH
      go_wp2_with fail
      go_loopw [13] (fun vk wx => ∃ k : Nat, vk = .int .i64 k ∧ a ≤ k ∧ k ≤ i - 1 ∧ Hid (SortAt W0 wx BO n (rotF f a (a + 1) (k + 1)))) (fun vk _ => i - (intOf vk).toNat)
      case atStart => exact ⟨a, rfl, by omega, by omega, hA0⟩
      case round =>
        obtain ⟨k, rfl, hak, hki, hK⟩ := hrel
        by_cases hlt : k < i - 1
        · have N1 := Lib.hid ((hK.out.swap k (k + 1) (by omega) (by omega)).same (g := rotF f a (a + 1) (k + 2)) (fun x => by
            unfold swpF rotF
            rw [rot_up hak]))
          have N2 := Lib.hid (N1.out.drewN 1)
          have c1 := hK.out.cell k (by omega)
          have c2 := hK.out.cell (k + 1) (by omega)
          have f1 := hK.out.soft k (by omega)
          have f2 := hK.out.soft (k + 1) (by omega)
          have c3 := hK.out.cell2 k (k + 1) (by omega) (by omega) (.int .i64 (rotF f a (a + 1) (k + 1) (k + 1)))
          have b1 : (0 : Int) ≤ (k : Int) + 1 := by omega
          have b2 : (k : Int) + 1 < (n : Int) := by omega
          have b3 : (k : Int) < (n : Int) := by omega
          have t1 : ((k : Int) + 1).toNat = k + 1 := by omega
          have w1 : IntKind.i64.wrap ((k : Int) + 1) = (k : Int) + 1 := by rw [IntKind.wrap_i64]; omega
          have d1 : decide ((k : Int) < ((i - 1 : Nat) : Int)) = true := decide_eq_true (by omega)
          clear N1 hK
          generalize rotF f a (a + 1) (k + 1) (k + 1) = y at *
          generalize rotF f a (a + 1) (k + 1) k = x at *
          go_wp2_with fail
          go_big_region
          go_wp2_with fail
          go_roundw
          case rel => exact ⟨k + 1, by go_num, by omega, by omega, N2⟩
          case measure => simp [intOf]; omega
        · obtain rfl : k = i - 1 := by omega
          have d1 : decide (((i - 1 : Nat) : Int) < ((i - 1 : Nat) : Int)) = false := decide_eq_false (by omega)
          rw [show i - 1 + 1 = i by omega] at hK
          go_wp2_with fail
          (try simp only [Exit.inBlock, Exit.then])
          refine bodyPost_ret (results_none rfl _ _ _) rfl ?_
          exact ⟨rfl, _, hM.out, hS.out, hK.out⟩

set_option maxRecDepth 100000 in
set_option maxHeartbeats 1600000 in
theorem merge_second {W0 : World} {C BR BO n cap : Nat} {r : Nat → Nat} (S : SortSeat W0 C BR BO n cap r) (f : Nat → Nat) (a m cp : Nat) (ham : a + 1 < m) (hb : m + 1 ≤ n) (hh : Halves r f a m (m + 1)) (w : World) (h : SortAt W0 w BO n f) :
    Calls Try.prog 48 #[.slice (some ⟨BO, 0, none⟩) n cp, .int .i64 a, .int .i64 m, .int .i64 ((m : Int) + 1), .func (.func 34) #[] #[.pointer (some ⟨C, 0, none⟩)]] w fun e w' =>
      e = .returned (.tuple #[]) ∧ ∃ g, Moved a (m + 1) f g ∧ SortedOn r g a (m + 1) ∧ SortAt W0 w' BO n g := by
  have few := S.few
  have HS := Lib.hid S
  have HH := Lib.hid hh
  have H0 := Lib.hid h
  have e0 : (((m : Int) - (a : Int)) == 1 : Bool) = false := by rw [beq_eq_false_iff_ne]; omega
  have e00 : (m : Int) + 1 - (m : Int) = 1 := by omega
  clear S hh h
  go_enter Try.func48, Try.ntmps48
  go_wp2_with fail
  go_loopw [14, 15] (fun vi vj wr => ∃ (i j : Nat), vi = .int .i64 i ∧ vj = .int .i64 j ∧ a ≤ i ∧ i ≤ j ∧ j ≤ m ∧ Hid (i = a ∨ ¬ r (f (i - 1)) < r (f m)) ∧ Hid (j = m ∨ r (f j) < r (f m)) ∧ Hid (SortAt W0 wr BO n f)) (fun vi vj _ => (intOf vj).toNat - (intOf vi).toNat)
  case atStart => exact ⟨a, m, by go_num, rfl, by omega, by omega, by omega, Lib.hid (.inl rfl), Lib.hid (.inl rfl), H0⟩
  case round =>
    obtain ⟨i, j, rfl, rfl, hai, hij, hjb, hL, hU, hA⟩ := hrel
    clear e0 e00
    by_cases hlt : i < j
    · obtain ⟨c, hc⟩ : ∃ c, c = (i + j) / 2 := ⟨_, rfl⟩
      have hc1 : i ≤ c := by omega
      have hc2 : c < j := by omega
      have hz : ((i : Int) + (j : Int)) / 2 = (c : Int) := by omega
      clear hc
      have l1 := fun k => (hA.out.drewN k).cell m (by omega)
      have l2 := fun k => (hA.out.drewN k).cell c (by omega)
      have HC := Lib.hid (hA.out.cmp HS.out m c (by omega) (by omega))
      have hcv := cmpD_neg (r (f c)) (r (f m))
      have N2 := Lib.hid (fun k => hA.out.drewN k)
      by_cases ht : r (f c) < r (f m)
      · rw [decide_eq_true ht] at hcv
        have NU : ∀ z, z = c → Hid (z = m ∨ r (f z) < r (f m)) := fun z hz => by rw [hz]; exact Lib.hid (.inr ht)
        clear hA ht
        generalize f c = x at *
        generalize f m = y at *
        go_wp2_with fail
        go_quiet ((go_at_call 34; refine Calls.quiet_of (HC.out _)))
        have N3 := Lib.hid (N2.out nq)
        clear l1 l2 HC N2
        generalize wr.drewN nq = w2 at *
        go_wp2_with fail
        go_roundw
        case rel => exact ⟨i, c, rfl, by go_num, hai, by omega, by omega, hL, NU c rfl, N3⟩
        case measure => simp [intOf]; omega
      · rw [decide_eq_false ht] at hcv
        have NL := Lib.hid (show c + 1 = a ∨ ¬ r (f (c + 1 - 1)) < r (f m) from .inr ht)
        clear hA ht
        generalize f c = x at *
        generalize f m = y at *
        go_wp2_with fail
        go_quiet ((go_at_call 34; refine Calls.quiet_of (HC.out _)))
        have N3 := Lib.hid (N2.out nq)
        clear l1 l2 HC N2
        generalize wr.drewN nq = w2 at *
        go_wp2_with fail
        go_roundw
        case rel => exact ⟨c + 1, j, by go_num, rfl, by omega, by omega, hjb, NL, hU, N3⟩
        case measure => simp [intOf]; omega
    · obtain rfl : i = j := by omega
      have hS := Lib.hid (merge_last HH.out hai hjb hL.out hU.out)
      have hM := Lib.hid ((rotF_moved f hjb (Nat.le_succ m)).mono hai (Nat.le_refl (m + 1)))
      have hA0 := Lib.hid (hA.out.same (g := rotF f m m (m + 1)) (fun x => by unfold rotF; rw [(rot_one m m x (Nat.le_refl m)).2]))
      clear hL hU hA HH
      go_wp2_with fail
      go_loopw [17] (fun vk wx => ∃ k : Nat, vk = .int .i64 k ∧ i ≤ k ∧ k ≤ m ∧ Hid (SortAt W0 wx BO n (rotF f k m (m + 1)))) (fun vk _ => (intOf vk).toNat)
      case atStart => exact ⟨m, rfl, by omega, by omega, hA0⟩
      case round =>
        obtain ⟨k, rfl, hik, hkm, hK⟩ := hrel
        by_cases hlt : i < k
        · obtain ⟨p, rfl⟩ : ∃ p, k = p + 1 := ⟨k - 1, by omega⟩
          have N1 := Lib.hid ((hK.out.swap (p + 1) p (by omega) (by omega)).same (g := rotF f p m (m + 1)) (fun x => by
            unfold swpF rotF
            rw [rot_down (by omega)]))
          have N2 := Lib.hid (N1.out.drewN 1)
          have c1 := hK.out.cell p (by omega)
          have c2 := hK.out.cell (p + 1) (by omega)
          have f1 := hK.out.soft p (by omega)
          have f2 := hK.out.soft (p + 1) (by omega)
          have c3 := hK.out.cell2 (p + 1) p (by omega) (by omega) (.int .i64 (rotF f (p + 1) m (m + 1) p))
          have z1 : ((p + 1 : Nat) : Int) = (p : Int) + 1 := by omega
          have b1 : (0 : Int) ≤ (p : Int) + 1 := by omega
          have b2 : (p : Int) + 1 < (n : Int) := by omega
          have b3 : (p : Int) < (n : Int) := by omega
          have b4 : (0 : Int) ≤ (p : Int) := by omega
          have t1 : ((p : Int) + 1).toNat = p + 1 := by omega
          have t2 : ((p : Int)).toNat = p := by omega
          have w1 : IntKind.i64.wrap ((p : Int) + 1) = (p : Int) + 1 := by rw [IntKind.wrap_i64]; omega
          have w2 : IntKind.i64.wrap (p : Int) = (p : Int) := by rw [IntKind.wrap_i64]; omega
          have d1 : decide ((i : Int) < (p : Int) + 1) = true := decide_eq_true (by omega)
          clear N1 hK
          generalize rotF f (p + 1) m (m + 1) (p + 1) = y at *
          generalize rotF f (p + 1) m (m + 1) p = x at *
          go_wp2_with fail
          go_big_region
          go_wp2_with fail
          go_roundw
          case rel => exact ⟨p, by go_num, by omega, by omega, N2⟩
          case measure => simp [intOf]
        · obtain rfl : k = i := by omega
          have d1 : decide ((k : Int) < (k : Int)) = false := decide_eq_false (by omega)
          go_wp2_with fail
          (try simp only [Exit.inBlock, Exit.then])
          refine bodyPost_ret (results_none rfl _ _ _) rfl ?_
          exact ⟨rfl, _, hM.out, hS.out, hK.out⟩
end Go.Proofs.Ytnjegnmkabnkkaa
