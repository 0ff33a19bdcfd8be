/- What the library's merge in place does to a list of numbers: two stretches of two numbers and more, and all of it. Condition: the list is the call's own. -/
import Derived.Test.YtnjegnmkabnkkaaSortMerge
namespace Go.Proofs.Ytnjegnmkabnkkaa
open Go.RowKit

/-- What the merge is to do. -/
def MergeDone (W0 w1 : World) (BO n : Nat) (r f : Nat → Nat) (a b : Nat) : Prop := ∃ g, Moved a b f g ∧ SortedOn r g a b ∧ SortAt W0 w1 BO n g

set_option maxRecDepth 100000 in
set_option maxHeartbeats 3200000 in
theorem merge_third {W0 : World} {C BR BO n cap : Nat} {r : Nat → Nat} (S : SortSeat W0 C BR BO n cap r) (cp : Nat) (f : Nat → Nat) (a m b : Nat) (ham : a + 1 < m) (hmb : m + 1 < b) (hb : b ≤ n) (hh : Halves r f a m b)
    (IH : ∀ (f' : Nat → Nat) (a' m' b' : Nat) (w' : World), b' - a' < b - a → a' < m' → m' < b' → b' ≤ n → Halves r f' a' m' b' → SortAt W0 w' BO n f' →
      Calls Try.prog 48 #[.slice (some ⟨BO, 0, none⟩) n cp, .int .i64 a', .int .i64 m', .int .i64 b', .func (.func 34) #[] #[.pointer (some ⟨C, 0, none⟩)]] w' fun e w1 =>
        e = .returned (.tuple #[]) ∧ MergeDone W0 w1 BO n r f' a' b') (w : World) (h : SortAt W0 w BO n f) :
    Calls Try.prog 48 #[.slice (some ⟨BO, 0, none⟩) n cp, .int .i64 a, .int .i64 m, .int .i64 b, .func (.func 34) #[] #[.pointer (some ⟨C, 0, none⟩)]] w fun e w1 =>
      e = .returned (.tuple #[]) ∧ MergeDone W0 w1 BO n r f a b := by
  have few := S.few
  have HS := Lib.hid S
  have HH := Lib.hid hh
  have H0 := Lib.hid h
  have HI := Lib.hid IH
  have e0 : (((m : Int) - (a : Int)) == 1 : Bool) = false := by rw [beq_eq_false_iff_ne]; omega
  have e1 : (((b : Int) - (m : Int)) == 1 : Bool) = false := by rw [beq_eq_false_iff_ne]; omega
  obtain ⟨mid, hmid⟩ : ∃ mid, mid = (a + b) / 2 := ⟨_, rfl⟩
  have hm1 : a + 2 ≤ mid := by omega
  have hm2 : mid + 2 ≤ b := by omega
  have hm3 : mid + mid ≤ a + b := by omega
  have hm4 : a + b ≤ mid + mid + 1 := by omega
  have hz : ((a : Int) + (b : Int)) / 2 = (mid : Int) := by omega
  clear S hh h IH hmid
  go_enter Try.func48, Try.ntmps48
  go_upto_if 140 with fail
  go_cut [20, 21] (fun s t wx => ∃ lo hi : Nat, s = .int .i64 lo ∧ t = .int .i64 hi ∧ a ≤ lo ∧ lo ≤ hi ∧ hi ≤ m ∧ hi ≤ mid ∧ mid + m ≤ b + lo ∧ (lo = a ∨ mid + m = b + lo) ∧ (hi = m ∨ hi = mid) ∧ wx = w)
  case first =>
    by_cases hc : mid < m
    · go_wp2_with fail
      go_meet
      exact ⟨mid + m - b, mid, by go_num, rfl, by omega, by omega, by omega, by omega, by omega, by omega, by omega, rfl⟩
    · go_wp2_with fail
      go_meet
      exact ⟨a, m, rfl, rfl, by omega, by omega, by omega, by omega, by omega, by omega, by omega, rfl⟩
  case rest =>
    obtain ⟨lo, hi, rfl, rfl, h1, h2, h3, h4, h5, h6, h7, rfl⟩ := hcut
    clear e0 e1 hz
    go_wp2_with fail
    go_loopw [20, 21] (fun vs vt wr => ∃ s t : Nat, vs = .int .i64 s ∧ vt = .int .i64 t ∧ lo ≤ s ∧ s ≤ t ∧ t ≤ hi ∧ Hid (s = lo ∨ ¬ r (f (s - 1)) < r (f (mid + m - s))) ∧ Hid (t = hi ∨ r (f t) < r (f (mid + m - t - 1))) ∧ Hid (SortAt W0 wr BO n f)) (fun vs vt _ => (intOf vt).toNat - (intOf vs).toNat)
    case atStart => exact ⟨lo, hi, rfl, rfl, Nat.le_refl _, h2, Nat.le_refl _, Lib.hid (.inl rfl), Lib.hid (.inl rfl), H0⟩
    case round =>
      obtain ⟨s, t, rfl, rfl, hs1, hst, ht1, hL, hU, hA⟩ := hrel
      by_cases hlt : s < t
      · obtain ⟨c, hc⟩ : ∃ c, c = (s + t) / 2 := ⟨_, rfl⟩
        have hc1 : s ≤ c := by omega
        have hc2 : c < t := by omega
        have hz : ((s : Int) + (t : Int)) / 2 = (c : Int) := by omega
        obtain ⟨d, hd⟩ : ∃ d, d = mid + m - c - 1 := ⟨_, rfl⟩
        have hz2 : (mid : Int) + (m : Int) - 1 - (c : Int) = (d : Int) := by omega
        have hdn : d < n := by omega
        have l1 := fun k => (hA.out.drewN k).cell d (by omega)
        have l2 := fun k => (hA.out.drewN k).cell c (by omega)
        have HC := Lib.hid (hA.out.cmp HS.out d c (by omega) (by omega))
        have hcv := cmpD_neg (r (f c)) (r (f d))
        have N2 := Lib.hid (fun k => hA.out.drewN k)
        by_cases ht : r (f c) < r (f d)
        · rw [decide_eq_true ht] at hcv
          have NU : ∀ z, z = c → Hid (z = hi ∨ r (f z) < r (f (mid + m - z - 1))) := fun z hz => by rw [hz, ← hd]; exact Lib.hid (.inr ht)
          clear hA ht hc hd
          generalize f d = x at *
          generalize f c = y at *
          go_wp2_with fail
          go_quiet ((go_at_call 34; refine Calls.quiet_of (HC.out _)))
          have N3 := Lib.hid (N2.out nq)
          clear l1 l2 HC N2
          generalize wr.drewN nq = w2 at *
          go_wp2_with fail
          go_roundw
          case rel => exact ⟨s, c, rfl, by go_num, hs1, by omega, by omega, hL, NU c rfl, N3⟩
          case measure => simp [intOf]; omega
        · rw [decide_eq_false ht] at hcv
          have NL : ∀ z, z = c → Hid (z + 1 = lo ∨ ¬ r (f (z + 1 - 1)) < r (f (mid + m - (z + 1)))) := fun z hz => by rw [hz, show mid + m - (c + 1) = d by omega]; exact Lib.hid (.inr ht)
          clear hA ht hc hd
          generalize f d = x at *
          generalize f c = y at *
          go_wp2_with fail
          go_quiet ((go_at_call 34; refine Calls.quiet_of (HC.out _)))
          have N3 := Lib.hid (N2.out nq)
          clear l1 l2 HC N2
          generalize wr.drewN nq = w2 at *
          go_wp2_with fail
          go_roundw
          case rel => exact ⟨c + 1, t, by go_num, rfl, by omega, by omega, ht1, NL c rfl, hU, N3⟩
          case measure => simp [intOf]; omega
      · obtain rfl : s = t := by omega
        have hcut := MergeCut.made HH.out h1 hs1 ht1 h3 h4 h5 h6 h7 hL.out hU.out
        obtain ⟨e, he⟩ : ∃ e, e = mid + m - s := ⟨_, rfl⟩
        rw [← he] at hcut
        have hz : (mid : Int) + (m : Int) - (s : Int) = (e : Int) := by omega
        have q1 := hcut.am
        have q2 := hcut.mb
        have q3 := hcut.sum
        have HCut := Lib.hid hcut
        have dd : decide ((s : Int) < (s : Int)) = false := decide_eq_false (by omega)
        have HN := Lib.hid hA.out
        clear hcut he hL hU hA H0 HH HS h5 h6 h7
        by_cases k1 : s = m
        · subst k1
          obtain rfl : e = mid := by omega
          have HA := Lib.hid (HN.out.same (g := rotF f s s e) (fun x => by unfold rotF; rw [rot_skip s s e x (Nat.le_refl s) q2.1 (.inl rfl)]))
          have c3 : decide (a < s) = true := decide_eq_true (by omega)
          have c4 : decide ((e : Int) < (e : Int)) = false := decide_eq_false (by omega)
          clear HN q1 q3
          by_cases k2 : s < e
          · have c5 : decide (s < e) = true := decide_eq_true k2
            have H1 := Lib.hid (HI.out _ a s e _ (by omega) (by omega) k2 (by omega) HCut.out.first HA.out)
            clear HI HA
            go_wp2_with fail
            refine H1.out.mono ?_
            rintro x w2 ⟨rfl, g1, m1, s1, A1⟩
            clear H1
            go_wp2_with fail
            go_end0
            obtain ⟨x1, x2⟩ := HCut.out.whole ⟨by omega, by omega⟩ m1 s1 (Moved.refl _ _ _) ((HCut.out.second.keep (fun i i1 i2 => m1.out i (.inr i1)) (by omega) (by omega)).lone (.inl rfl))
            exact ⟨rfl, g1, x1, x2, A1⟩
          · have c5 : decide (s < e) = false := decide_eq_false k2
            go_wp2_with fail
            go_end0
            obtain ⟨x1, x2⟩ := HCut.out.whole ⟨by omega, by omega⟩ (Moved.refl _ _ _) (HCut.out.first.lone (.inr (by omega))) (Moved.refl _ _ _) (HCut.out.second.lone (.inl rfl))
            exact ⟨rfl, _, x1, x2, HA.out⟩
        · by_cases k2 : e = m
          · subst k2
            obtain rfl : s = mid := by omega
            have HA := Lib.hid (HN.out.same (g := rotF f s e e) (fun x => by unfold rotF; rw [rot_skip s e e x q1.2 (Nat.le_refl e) (.inr rfl)]))
            have c1 : decide (s < e) = true := decide_eq_true (by omega)
            have c2 : decide ((e : Int) < (e : Int)) = false := decide_eq_false (by omega)
            have c3 : decide (a < s) = true := decide_eq_true (by omega)
            have c4 : decide (e < b) = true := decide_eq_true (by omega)
            have H2 := Lib.hid (HI.out _ s e b _ (by omega) (by omega) (by omega) (by omega) HCut.out.second HA.out)
            clear HN HI HA q1 q3
            go_wp2_with fail
            refine H2.out.mono ?_
            rintro x w3 ⟨rfl, g2, m2, s2, A2⟩
            clear H2
            go_wp2_with fail
            go_end0
            obtain ⟨x1, x2⟩ := HCut.out.whole ⟨by omega, by omega⟩ (Moved.refl _ _ _) (HCut.out.first.lone (.inr rfl)) m2 s2
            exact ⟨rfl, g2, x1, x2, A2⟩
          · have c1 : decide (s < m) = true := decide_eq_true (by omega)
            have c2 : decide (m < e) = true := decide_eq_true (by omega)
            have HR := Lib.hid (fun u => rotate_any few f s m e cp (by omega) (by omega) (by omega) u _ HN.out)
            have c3 : decide (s < mid) = true := decide_eq_true (by omega)
            have c4 : decide (mid < e) = true := decide_eq_true (by omega)
            clear HN
            go_wp2_with fail
            refine (HR.out _).mono ?_
            rintro x w1 ⟨rfl, hR⟩
            have HN := Lib.hid hR
            clear hR HR
            by_cases k3 : a < s
            · have c5 : decide (a < s) = true := decide_eq_true k3
              have H1 := Lib.hid (HI.out _ a s mid _ (by omega) k3 (by omega) (by omega) HCut.out.first HN.out)
              clear HN
              go_wp2_with fail
              refine H1.out.mono ?_
              rintro x w2 ⟨rfl, g1, m1, s1, A1⟩
              clear H1
              have M1 := Lib.hid m1
              have S1 := Lib.hid s1
              have HN := Lib.hid A1
              clear m1 s1 A1
              by_cases k4 : e < b
              · have c6 : decide (e < b) = true := decide_eq_true k4
                have H2 := Lib.hid (HI.out g1 mid e b _ (by omega) (by omega) k4 (by omega) (HCut.out.second.keep (fun i i1 i2 => M1.out.out i (.inr i1)) (by omega) (by omega)) HN.out)
                clear HN HI
                go_wp2_with fail
                refine H2.out.mono ?_
                rintro x w3 ⟨rfl, g2, m2, s2, A2⟩
                clear H2
                go_wp2_with fail
                go_end0
                obtain ⟨x1, x2⟩ := HCut.out.whole ⟨by omega, by omega⟩ M1.out S1.out m2 s2
                exact ⟨rfl, g2, x1, x2, A2⟩
              · have c6 : decide (e < b) = false := decide_eq_false k4
                clear HI
                go_wp2_with fail
                go_end0
                obtain ⟨x1, x2⟩ := HCut.out.whole ⟨by omega, by omega⟩ M1.out S1.out (Moved.refl _ _ _) ((HCut.out.second.keep (fun i i1 i2 => M1.out.out i (.inr i1)) (by omega) (by omega)).lone (.inr (by omega)))
                exact ⟨rfl, g1, x1, x2, HN.out⟩
            · have c5 : decide (a < s) = false := decide_eq_false k3
              by_cases k4 : e < b
              · have c6 : decide (e < b) = true := decide_eq_true k4
                have H2 := Lib.hid (HI.out _ mid e b _ (by omega) (by omega) k4 (by omega) HCut.out.second HN.out)
                clear HN HI
                go_wp2_with fail
                refine H2.out.mono ?_
                rintro x w3 ⟨rfl, g2, m2, s2, A2⟩
                clear H2
                go_wp2_with fail
                go_end0
                obtain ⟨x1, x2⟩ := HCut.out.whole ⟨by omega, by omega⟩ (Moved.refl _ _ _) (HCut.out.first.lone (.inl (by omega))) m2 s2
                exact ⟨rfl, g2, x1, x2, A2⟩
              · have c6 : decide (e < b) = false := decide_eq_false k4
                clear HI
                go_wp2_with fail
                go_end0
                obtain ⟨x1, x2⟩ := HCut.out.whole ⟨by omega, by omega⟩ (Moved.refl _ _ _) (HCut.out.first.lone (.inl (by omega))) (Moved.refl _ _ _) (HCut.out.second.lone (.inr (by omega)))
                exact ⟨rfl, _, x1, x2, HN.out⟩

/-- The merge, for every length. -/
theorem symMerge_any {W0 : World} {C BR BO n cap : Nat} {r : Nat → Nat} (S : SortSeat W0 C BR BO n cap r) (cp : Nat) : ∀ (k : Nat) (f : Nat → Nat) (a m b : Nat) (w : World), b - a < k → a < m → m < b → b ≤ n → Halves r f a m b → SortAt W0 w BO n f →
    Calls Try.prog 48 #[.slice (some ⟨BO, 0, none⟩) n cp, .int .i64 a, .int .i64 m, .int .i64 b, .func (.func 34) #[] #[.pointer (some ⟨C, 0, none⟩)]] w fun e w1 =>
      e = .returned (.tuple #[]) ∧ MergeDone W0 w1 BO n r f a b
  | 0, _, _, _, _, _, hk, _, _, _, _, _ => absurd hk (by omega)
  | k + 1, f, a, m, b, w, hk, h1, h2, h3, h4, h5 => by
    by_cases c1 : m = a + 1
    · subst c1
      exact merge_first S f a b cp h2 h3 h4 w h5
    · by_cases c2 : b = m + 1
      · subst c2
        exact merge_second S f a m cp (by omega) h3 h4 w h5
      · exact merge_third S cp f a m b (by omega) (by omega) h3 h4 (fun f' a' m' b' w' g0 g1 g2 g3 g4 g5 => symMerge_any S cp k f' a' m' b' w' (by omega) g1 g2 g3 g4 g5) w h5
end Go.Proofs.Ytnjegnmkabnkkaa
