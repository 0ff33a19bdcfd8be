/- The law CapBounds, walked: it returns true at every input. No condition. -/
import Derived.Test.YtnjegnmkabnkkaaShareExactWalk
namespace Go.Proofs.Ytnjegnmkabnkkaa
open Go.RowKit

theorem sumI_congr {f g : Nat → Int} : ∀ n, (∀ i, i < n → f i = g i) → sumI f n = sumI g n
  | 0, _ => rfl
  | n + 1, h => by
    show sumI f n + _ = sumI g n + _
    rw [sumI_congr n (fun i hi => h i (by omega)), h n (by omega)]
theorem sumI_cast (a : Nat → Nat) : ∀ n, sumI (fun i => (a i : Int)) n = (sumN a n : Nat)
  | 0 => rfl
  | n + 1 => by
    show sumI (fun i => (a i : Int)) n + (a n : Int) = ((sumN a n + a n : Nat) : Int)
    rw [sumI_cast a n]
    omega
theorem sumI_bounds {f : Nat → Int} {M : Int} : ∀ n : Nat, (∀ i, i < n → 0 ≤ f i ∧ f i ≤ M) → 0 ≤ sumI f n ∧ sumI f n ≤ n * M
  | 0, _ => by simp [sumI]
  | n + 1, h => by
    have h1 := sumI_bounds n (fun i hi => h i (by omega))
    have h2 := h n (by omega)
    show 0 ≤ sumI f n + f n ∧ sumI f n + f n ≤ ((n + 1 : Nat) : Int) * M
    have e : ((n + 1 : Nat) : Int) * M = n * M + M := by rw [Int.natCast_add, Int.add_mul]; simp
    omega
/-- What Cap gives of amounts: no more than each asked for, together the smaller of both sums. -/
theorem cp_facts {T : Int} {n : Nat} {g : Nat → Int} (hT : 0 ≤ T ∧ T ≤ 1000000000000) (hn : n ≤ 1000) (hg : amts0 g n = true) :
    cpE T n g = 0 ∧ cpN T n g = n ∧ (∀ i, i < n → 0 ≤ cpI T n g i ∧ cpI T n g i ≤ g i) ∧ sumI (cpI T n g) n = min T (sumI g n) := by
  have hat := amts0_at hg
  have e1 : cpE T n g = 0 := by
    unfold cpE shE
    rw [if_neg (show ¬ 1000 < n by omega), if_neg (show ¬ (T < 0 ∨ 1000000000000 < T ∨ amts0 g n = false) by rw [hg]; simp; omega)]
    split <;> rfl
  have hsum := (sumI_nat hg).1
  refine ⟨e1, if_pos e1, ?_⟩
  by_cases hs : sumI g n ≤ T
  · have e2 : ∀ i, cpI T n g i = g i := fun i => if_pos hs
    refine ⟨fun i hi => ?_, ?_⟩
    · rw [e2]
      have := hat i hi
      omega
    · rw [sumI_congr n (fun i _ => e2 i)]
      omega
  · have e2 : ∀ i, cpI T n g i = shI T n g i := fun i => if_neg hs
    have hn1 : 1 ≤ n := by
      rcases Nat.eq_zero_or_pos n with z | z
      · subst z
        exact absurd (show sumI g 0 ≤ T from hT.1) hs
      · exact z
    refine ⟨fun i hi => ?_, ?_⟩
    · rw [e2]
      have h1 := sh_cap T.toNat (wN g) n i hn1 (by omega)
      have h2 := hat i hi
      have h3 : wN g i = (g i).toNat := rfl
      unfold shI
      omega
    · rw [sumI_congr n (fun i _ => e2 i)]
      have h1 := sumI_cast (shV T.toNat (wN g) n) n
      rw [sh_total _ _ _ hn1] at h1
      have h2 : sumI (fun i => shI T n g i) n = sumI (fun i => (shV T.toNat (wN g) n i : Int)) n := rfl
      rw [h2, h1]
      omega
theorem wt_pack (small : Bool) (f : Nat → Int) : ∃ g : Nat → Int, (fun i => wtOf small (f i)) = g ∧ ∀ i, 0 ≤ g i ∧ g i ≤ 1000000000000 := ⟨_, rfl, fun i => wtOf_bounds small (f i)⟩

set_option maxRecDepth 100000 in
set_option maxHeartbeats 1600000 in
theorem capBounds_walk (x : Int) (v : Value) (n : Nat) (f : Nat → Int) (w : World) (h : ListAt w .i64 v n f) (small : Bool) :
    Calls Try.prog 9 #[.int .i64 x, v, .bool small] w fun e w' => e = .returned (.bool true) ∧ Below w.heap.size w w' := by
  have HT := Lib.hid (total_any x small)
  have hW := weights_any small v n f w h
  have hc60 := cut60_le n
  have ht := totOf_bounds small x
  obtain ⟨g, hg, hgb⟩ := wt_pack small f
  rw [hg] at hW
  have HW := Lib.hid hW
  have H1 := Lib.hid (fun B (w1 : World) (hI : Ints w1 B (cut60 n) g) => cap_any (totOf small x) (.slice (some ⟨B, 0, none⟩) (cut60 n) (cut60 n)) (cut60 n) _ w1 (hI.list (by omega) (fun i _ => small_wf (by have := hgb i; omega))))
  unfold CapGives at H1
  obtain ⟨c1, c2, c3, c4⟩ := cp_facts ht (show cut60 n ≤ 1000 by omega) (amts0_of (fun i _ => hgb i))
  rw [c1, c2] at H1
  generalize cpI (totOf small x) (cut60 n) g = c at *
  generalize cut60 n = m at *
  generalize totOf small x = t at *
  clear h c1 c2 hW hg
  go_enter Try.func9, Try.ntmps9
  go_wp2_with fail
  refine (HT.out _).mono ?_
  rintro e w0 ⟨rfl, rfl⟩
  go_wp2_with fail
  refine HW.out.mono ?_
  rintro e w0 ⟨B, rfl, hI, hnB, hb0⟩
  have HI := Lib.hid hI
  clear hI hnB
  go_wp2_with fail
  refine (H1.out B w0 HI.out).mono ?_
  rintro e w1 ⟨u1, rfl, hO1, hb1⟩
  have hB1 := hb0.trans (hb1.mono hb0.size)
  have hI1 := HI.out.keep hb1
  have hl1 := hO1.list
  clear hO1 hb1 hb0 HI H1 HT HW
  rcases hl1 with ⟨rfl, rfl⟩ | ⟨a1, cap1, rfl, _, _, a3⟩
  · go_wp2_with fail
    go_loop [9, 10, 11] (fun p q i => p = .int .i64 0 ∧ q = .int .i64 0 ∧ i = .int .i64 0) (fun _ _ _ => 0)
    case atStart => exact ⟨rfl, rfl, rfl⟩
    case round =>
      obtain ⟨rfl, rfl, rfl⟩ := hrel
      clear c4
      have hm0 : min t 0 = 0 := by omega
      go_wp2_with fail
      all_goals
        refine (awake3_any _).mono ?_
        rintro e w4 ⟨rfl, hb4⟩
        have hB4 := hB1.trans (hb4.mono hB1.size)
        go_wp2_with fail
        go_ret
        exact ⟨rfl, hB4⟩
  · have e0 : ((m : Int) != (m : Int)) = false := by simp
    go_wp2_with fail
    go_loopw [9, 10, 11] (fun p q i wx => ∃ (k : Nat) (P Q : Int), k ≤ m ∧ i = .int .i64 k ∧ p = .int .i64 P ∧ q = .int .i64 Q ∧ Hid (P = sumI c k ∧ Q = sumI g k) ∧ Below w1.heap.size w1 wx) (fun _ _ i _ => m - (intOf i).toNat)
    case atStart => exact ⟨0, 0, 0, Nat.zero_le _, rfl, rfl, rfl, Lib.hid ⟨rfl, rfl⟩, by repeat (first | exact Below.refl _ _ | (refine below_drewN ?_ _) | (refine Below.drew ?_))⟩
    case round =>
      obtain ⟨k, P, Q, hk, rfl, rfl, rfl, hPQ, hbx⟩ := hrel
      have hP := sumI_bounds (f := c) (M := 1000000000000) k (fun i hi => by have := c3 i (by omega); have := hgb i; omega)
      have hQ := sumI_bounds (f := g) (M := 1000000000000) k (fun i hi => hgb i)
      have hP2 : 0 ≤ P ∧ P ≤ 60000000000000 := by rw [hPQ.out.1]; omega
      have hQ2 : 0 ≤ Q ∧ Q ≤ 60000000000000 := by rw [hPQ.out.2]; omega
      clear hP hQ
      by_cases hlt : k < m
      · have r1 := cell_keep hbx (a3 k hlt).1
        have r2 := cell_keep hbx (hI1.1 k hlt).1
        have hx := c3 k hlt
        have hy := hgb k
        have hn2 := Lib.hid (show P + c k = sumI c (k + 1) ∧ Q + g k = sumI g (k + 1) by rw [hPQ.out.1, hPQ.out.2]; exact ⟨rfl, rfl⟩)
        clear hPQ a3 hgb c3 c4 hI1
        generalize c k = cx at *
        generalize g k = gx at *
        have d1 : decide (cx < 0) = false := decide_eq_false (by omega)
        have d2 : decide (gx < cx) = false := decide_eq_false (by omega)
        go_wp2_with fail
        go_quiet (fail)
        go_wp2_with fail
        go_quiet (fail)
        go_wp2_with fail
        go_roundw
        case rel => exact ⟨k + 1, _, _, by omega, by go_num, rfl, rfl, hn2, by repeat (first | exact hbx | (refine below_drewN ?_ _) | (refine Below.drew ?_))⟩
        case measure => simp [intOf]; omega
      · have : k = m := by omega
        subst this
        have hmin : Hid (P = min t Q) := Lib.hid (by rw [hPQ.out.1, hPQ.out.2]; exact c4)
        clear c4 c3 hgb a3 hI1 hPQ
        have hB2 := hB1.trans (hbx.mono hB1.size)
        by_cases hq : Q < t
        · obtain rfl : P = Q := by have := hmin.out; omega
          clear hmin
          have hm0 : min t P = P := by omega
          go_wp2_with fail
          all_goals
            refine (awake3_any _).mono ?_
            rintro e w4 ⟨rfl, hb4⟩
            have hB4 := hB2.trans (hb4.mono hB2.size)
            go_wp2_with fail
            go_ret
            exact ⟨rfl, hB4⟩
        · obtain rfl : P = t := by have := hmin.out; omega
          clear hmin
          have hm0 : min P Q = P := by omega
          go_wp2_with fail
          all_goals
            refine (awake3_any _).mono ?_
            rintro e w4 ⟨rfl, hb4⟩
            have hB4 := hB2.trans (hb4.mono hB2.size)
            go_wp2_with fail
            go_ret
            exact ⟨rfl, hB4⟩
end Go.Proofs.Ytnjegnmkabnkkaa
