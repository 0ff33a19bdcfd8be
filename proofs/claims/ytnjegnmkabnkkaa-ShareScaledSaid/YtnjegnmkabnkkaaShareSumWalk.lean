/- The law ShareSum, walked: it returns true at every input. No condition. -/
import Derived.Test.YtnjegnmkabnkkaaCapBoundsWalk
namespace Go.Proofs.Ytnjegnmkabnkkaa
open Go.RowKit

/-- What Share gives of amounts: the shares add up to the total, each is the quotient rounded. -/
theorem sh_facts {t n : Nat} {g : Nat → Int} (ht : t ≤ 1000000000000) (hn : n ≤ 1000) (hn1 : 1 ≤ n) (hg : amts0 g n = true) :
    shE (t : Int) n g = 0 ∧ shN (t : Int) n g = n ∧ (∀ i, i < n → 0 ≤ shI (t : Int) n g i ∧ shI (t : Int) n g i ≤ t) ∧ sumI (shI (t : Int) n g) n = t ∧
    ∀ A i : Nat, sumI g n = (A : Int) → 0 < A → i < n → ∃ y : Nat, g i = (y : Int) ∧ ((t * y / A : Nat) : Int) ≤ shI (t : Int) n g i ∧ shI (t : Int) n g i ≤ (((t * y + A - 1) / A : Nat) : Int) := by
  have e1 : shE (t : Int) n g = 0 := by
    unfold shE
    rw [if_neg (show ¬ 1000 < n by omega), if_neg (show ¬ ((t : Int) < 0 ∨ 1000000000000 < (t : Int) ∨ amts0 g n = false) by rw [hg]; simp; omega), if_neg (by omega)]
  refine ⟨e1, if_pos e1, fun i hi => sh_le (by omega) hn1 i hi, ?_, fun A i hA hA0 hi => ?_⟩
  · have h1 := sumI_cast (shV t (wN g) n) n
    rw [sh_total _ _ _ hn1] at h1
    exact h1
  · have hs := (sumI_nat hg).1
    have h0 : sumN (wN g) n ≠ 0 := by omega
    have ea : allW (wN g) n = A := (if_neg h0).trans (by omega)
    have ee : effW (wN g) n i = (g i).toNat := if_neg h0
    have h1 := sh_low t (wN g) n i
    have h2 := sh_up t (wN g) n i hn1
    unfold shQ at h1
    rw [ea, ee] at h1 h2
    have h3 := (amts0_at hg i hi).1
    refine ⟨(g i).toNat, by omega, ?_, ?_⟩
    · show ((t * (g i).toNat / A : Nat) : Int) ≤ (shV t (wN g) n i : Int)
      exact Int.ofNat_le.2 h1
    · show (shV t (wN g) n i : Int) ≤ _
      exact Int.ofNat_le.2 h2

/-- The weight of a number, below a million. -/
def milOf (x : Int) : Int := absOf x % 1000000
theorem milOf_bounds (x : Int) : 0 ≤ milOf x ∧ milOf x < 1000000 := by unfold milOf; omega
theorem mil_pack (f : Nat → Int) : ∃ g : Nat → Int, (fun i => milOf (f i)) = g ∧ ∀ i, 0 ≤ g i ∧ g i < 1000000 := ⟨_, rfl, fun i => milOf_bounds (f i)⟩

set_option maxRecDepth 100000 in
set_option maxHeartbeats 1600000 in
theorem shareSum_some (x : Int) (v : Value) (n : Nat) (f : Nat → Int) (w : World) (h : ListAt w .i64 v n f) (hn1 : 1 ≤ n) :
    Calls Try.prog 4 #[.int .i64 x, v] w fun e w' => e = .returned (.bool true) ∧ Below w.heap.size w w' := by
  have HT := Lib.hid (total_any x false)
  have hW := weights_any false v n f w h
  have hc60 := cut60_le n
  have hm1 : 1 ≤ cut60 n := by unfold cut60; split <;> omega
  have hta := absOf_bounds x
  have htt : totOf false x = absOf x := rfl
  rw [htt] at HT
  obtain ⟨T, hT, hT6⟩ : ∃ T : Nat, absOf x % 1000000 = (T : Int) ∧ T < 1000000 := ⟨(absOf x % 1000000).toNat, by omega, by omega⟩
  obtain ⟨g, hg, hgb⟩ := mil_pack f
  have hwf : ∀ i, wtOf false (f i) = absOf (f i) := fun _ => rfl
  have hab := fun i => absOf_bounds (f i)
  have hgi : ∀ i, absOf (f i) % 1000000 = g i := fun i => by rw [← hg]; rfl
  have HW := Lib.hid hW
  have H1 := Lib.hid (fun B (w1 : World) (hI : Ints w1 B (cut60 n) g) => share_any (T : Int) (.slice (some ⟨B, 0, none⟩) (cut60 n) (cut60 n)) (cut60 n) g w1 (hI.list (by omega) (fun i _ => small_wf (by have := hgb i; omega))))
  unfold ShareGives at H1
  obtain ⟨c1, c2, c3, c4, c5⟩ := sh_facts (t := T) (by omega) (show cut60 n ≤ 1000 by omega) hm1 (amts0_of (g := g) (fun i _ => by have := hgb i; omega))
  rw [c1, c2] at H1
  generalize shI (T : Int) (cut60 n) g = c at *
  generalize cut60 n = m at *
  clear h c1 c2 hW hg htt
  go_enter Try.func4, Try.ntmps4
  go_wp2_with fail
  refine (HT.out _).mono ?_
  rintro e w0 ⟨rfl, rfl⟩
  go_wp2_with fail
  refine HW.out.mono ?_
  rintro e w0 ⟨B, rfl, hI, hnB, hb0⟩
  have HI := Lib.hid hI
  clear hI
  go_wp2_with fail
  clear hT
  go_loopw [5, 7] (fun p i wx => ∃ k : Nat, k ≤ m ∧ i = .int .i64 k ∧ ∃ A : Int, p = .int .i64 A ∧ Hid (A = sumI g k) ∧ Hid (Ints wx B m (fun j => if j < k then g j else absOf (f j))) ∧ Below w.heap.size w wx) (fun _ i _ => m - (intOf i).toNat)
  case atStart => exact ⟨0, Nat.zero_le _, rfl, 0, rfl, Lib.hid rfl, Lib.hid (HI.out.congr (fun j _ => by rw [if_neg (by omega)]; rfl)), hb0⟩
  case round =>
    obtain ⟨k, hk, rfl, A, rfl, hA, hI1, hB1⟩ := hrel
    have hAb := sumI_bounds (f := g) (M := 1000000) k (fun i _ => by have := hgb i; omega)
    have hA2 : 0 ≤ A ∧ A ≤ 60000000 := by rw [hA.out]; omega
    clear hAb
    by_cases hlt : k < m
    · obtain ⟨d1, d2⟩ := hI1.out.1 k hlt
      simp only [Nat.lt_irrefl, if_false] at d1
      have hy := hab k
      have hgk := hgi k
      have hgb2 := hgb k
      have hA3 := Lib.hid (show A + g k = sumI g (k + 1) by rw [hA.out]; rfl)
      have hI2 := Lib.hid (hI1.out.set k (g k) (fun j => if j < k + 1 then g j else absOf (f j)) (fun j _ => by
        by_cases e : j = k
        · subst e; simp
        · by_cases h2 : j < k
          · rw [if_pos (by omega), if_neg e, if_pos h2]
          · rw [if_neg (by omega), if_neg e, if_neg h2]))
      have hB2 : Below w.heap.size w (wr.setCell ⟨B, k, none⟩ (.int .i64 (g k))) := hB1.setCell hnB _
      clear hA hI1 hwf hab hgi c3 c4 c5 hgb
      generalize absOf (f k) = y at *
      generalize g k = z at *
      go_wp2_with fail
      go_roundw
      case rel => exact ⟨k + 1, by omega, by go_num, _, rfl, hA3, hI2, hB2⟩
      case measure => simp [intOf]; omega
    · have : k = m := by omega
      subst this
      have hI2 := Lib.hid (hI1.out.congr (g := g) (fun j hj => if_pos hj))
      have d0 : decide ((k : Int) < (k : Int)) = false := decide_eq_false (by omega)
      have dz : ((k : Int) == 0) = false := by rw [beq_eq_false_iff_ne]; omega
      clear hI1
      go_wp2_with fail
      refine (H1.out B _ hI2.out).mono ?_
      rintro e w1 ⟨u1, rfl, hO1, hb1⟩
      have hB2 := hB1.trans (hb1.mono hB1.size)
      have hI3 := hI2.out.keep hb1
      have hl1 := hO1.list
      clear hO1 hb1 hI2 H1 HT HW HI
      rcases hl1 with ⟨rfl, hz⟩ | ⟨a1, cap1, rfl, _, _, a3⟩
      · omega
      · go_wp2_with fail
        go_loopw [6, 10] (fun p i wx => ∃ j : Nat, j ≤ k ∧ i = .int .i64 j ∧ ∃ P : Int, p = .int .i64 P ∧ Hid (P = sumI c j) ∧ Below w1.heap.size w1 wx) (fun _ i _ => k - (intOf i).toNat)
        case atStart => exact ⟨0, Nat.zero_le _, rfl, 0, rfl, Lib.hid rfl, Below.refl _ _⟩
        case round =>
          obtain ⟨j, hj, rfl, P, rfl, hP, hbx⟩ := hrel
          have hPb := sumI_bounds (f := c) (M := (T : Int)) j (fun i hi => c3 i (by omega))
          have hP2 : 0 ≤ P ∧ P ≤ 60000000 := by
            rw [hP.out]
            have : (j : Int) * (T : Int) ≤ 60 * 1000000 := Int.mul_le_mul (by omega) (by omega) (by omega) (by omega)
            omega
          clear hPb
          by_cases hlt : j < k
          · have r1 := cell_keep hbx (a3 j hlt).1
            have r2 := cell_keep hbx (hI3.1 j hlt).1
            have hx := c3 j hlt
            have hP3 := Lib.hid (show P + c j = sumI c (j + 1) by rw [hP.out]; rfl)
            obtain ⟨An, rfl⟩ := Int.eq_ofNat_of_zero_le hA2.1
            have h5 := c5 An j hA.out.symm
            have hgj := hgb j
            clear hP hA a3 hI3 c3 c4 c5 hgb hab hgi hwf
            by_cases hA0 : 0 < An
            · obtain ⟨y, hy, q1, q2⟩ := h5 hA0 hlt
              rw [hy] at r2 hgj
              generalize c j = cx at *
              have dA : decide (0 < (An : Int)) = true := decide_eq_true (by omega)
              have e1 : (T : Int) * (y : Int) / (An : Int) = ((T * y / An : Nat) : Int) := by rw [← Int.natCast_mul]; rfl
              have e2 : ((T : Int) * (y : Int) + (An : Int) - 1) / (An : Int) = (((T * y + An - 1) / An : Nat) : Int) := by
                rw [show (T : Int) * (y : Int) + (An : Int) - 1 = ((T * y + An - 1 : Nat) : Int) by rw [← Int.natCast_mul]; omega]
                rfl
              have q3 : decide (cx < (T : Int) * (y : Int) / (An : Int)) = false := decide_eq_false (by rw [e1]; omega)
              have q4 : decide (((T : Int) * (y : Int) + (An : Int) - 1) / (An : Int) < cx) = false := decide_eq_false (by rw [e2]; omega)
              have dz2 : ((An : Int) == 0) = false := by rw [beq_eq_false_iff_ne]; omega
              clear h5 hy q1 q2 e1 e2
              have hmul : (T : Int) * (y : Int) ≤ 1000000 * 1000000 ∧ 0 ≤ (T : Int) * (y : Int) := ⟨Int.mul_le_mul (by omega) (by omega) (by omega) (by omega), Int.mul_nonneg (by omega) (by omega)⟩
              go_wp2_with fail
              go_quiet (fail)
              go_wp2_with fail
              go_roundw
              case rel => exact ⟨j + 1, by omega, by go_num, _, rfl, hP3, below_drewN hbx _⟩
              case measure => simp [intOf]; omega
            · have dA : decide (0 < (An : Int)) = false := decide_eq_false (by omega)
              clear h5
              generalize c j = cx at *
              generalize g j = z at *
              go_wp2_with fail
              go_quiet (fail)
              go_wp2_with fail
              go_roundw
              case rel => exact ⟨j + 1, by omega, by go_num, _, rfl, hP3, below_drewN hbx _⟩
              case measure => simp [intOf]; omega
          · have : j = k := by omega
            subst this
            obtain rfl : P = (T : Int) := by rw [hP.out]; exact c4
            have d9 : decide ((j : Int) < (j : Int)) = false := decide_eq_false (by omega)
            have hB3 := hB2.trans (hbx.mono hB2.size)
            clear hP c3 c4 c5 a3 hI3 hgb hab hgi hwf
            go_wp2_with fail
            refine (awake3_any _).mono ?_
            rintro e w4 ⟨rfl, hb4⟩
            have hB4 := hB3.trans (hb4.mono hB3.size)
            go_wp2_with fail
            go_ret
            exact ⟨rfl, hB4⟩

set_option maxRecDepth 100000 in
set_option maxHeartbeats 1600000 in
theorem shareSum_none (x : Int) (v : Value) (f : Nat → Int) (w : World) (h : ListAt w .i64 v 0 f) :
    Calls Try.prog 4 #[.int .i64 x, v] w fun e w' => e = .returned (.bool true) ∧ Below w.heap.size w w' := by
  have HT := Lib.hid (total_any x false)
  have hW := weights_any false v 0 f w h
  have hta := absOf_bounds x
  have htt : totOf false x = absOf x := rfl
  have hcc : cut60 0 = 0 := rfl
  rw [htt] at HT
  rw [hcc] at hW
  obtain ⟨T, hT, hT6⟩ : ∃ T : Nat, absOf x % 1000000 = (T : Int) ∧ T < 1000000 := ⟨(absOf x % 1000000).toNat, by omega, by omega⟩
  have HW := Lib.hid hW
  have H1 := Lib.hid (fun B (w1 : World) (hI : Ints w1 B 0 (fun i => wtOf false (f i))) => share_any (T : Int) (.slice (some ⟨B, 0, none⟩) 0 0) 0 _ w1 (hI.list (by omega) (fun i hi => absurd hi (by omega))))
  unfold ShareGives at H1
  have e1 : shE (T : Int) 0 (fun i => wtOf false (f i)) = if 0 < T then 7 else 0 := by
    unfold shE
    rw [if_neg (by omega), if_neg (show ¬ ((T : Int) < 0 ∨ 1000000000000 < (T : Int) ∨ amts0 (fun i => wtOf false (f i)) 0 = false) by rw [show amts0 (fun i => wtOf false (f i)) 0 = true from rfl]; simp; omega)]
    by_cases h : 0 < T
    · rw [if_pos (by omega), if_pos h]
    · rw [if_neg (by omega), if_neg h]
  rw [e1] at H1
  clear h hW e1 htt hcc
  rcases Nat.eq_zero_or_pos T with hz | hz
  · subst hz
    rw [if_neg (by omega)] at H1
    go_enter Try.func4, Try.ntmps4
    go_wp2_with fail
    refine (HT.out _).mono ?_
    rintro e w0 ⟨rfl, rfl⟩
    go_wp2_with fail
    refine HW.out.mono ?_
    rintro e w0 ⟨B, rfl, hI, hnB, hb0⟩
    have HI := Lib.hid hI
    clear hI
    go_wp2_with fail
    clear hT
    go_loop [5, 7] (fun p i => i = .int .i64 0 ∧ p = .int .i64 0) (fun _ _ => 0)
    case atStart => exact ⟨rfl, rfl⟩
    case round =>
      obtain ⟨rfl, rfl⟩ := hrel
      go_wp2_with fail
      refine (H1.out B _ HI.out).mono ?_
      rintro e w1 ⟨u1, rfl, hO1, hb1⟩
      have hB2 := hb0.trans (hb1.mono hb0.size)
      clear hO1
      go_wp2_with fail
      refine (awake3_any _).mono ?_
      rintro e w4 ⟨rfl, hb4⟩
      have hB4 := hB2.trans (hb4.mono hB2.size)
      go_wp2_with fail
      go_ret
      exact ⟨rfl, hB4⟩
  · rw [if_pos hz] at H1
    have dz : decide (0 < (T : Int)) = true := decide_eq_true (by omega)
    go_enter Try.func4, Try.ntmps4
    go_wp2_with fail
    refine (HT.out _).mono ?_
    rintro e w0 ⟨rfl, rfl⟩
    go_wp2_with fail
    refine HW.out.mono ?_
    rintro e w0 ⟨B, rfl, hI, hnB, hb0⟩
    have HI := Lib.hid hI
    clear hI
    go_wp2_with fail
    clear hT
    go_loop [5, 7] (fun p i => i = .int .i64 0 ∧ p = .int .i64 0) (fun _ _ => 0)
    case atStart => exact ⟨rfl, rfl⟩
    case round =>
      obtain ⟨rfl, rfl⟩ := hrel
      go_wp2_with fail
      refine (H1.out B _ HI.out).mono ?_
      rintro e w1 ⟨u1, rfl, hO1, hb1⟩
      have hB2 := hb0.trans (hb1.mono hb0.size)
      clear hO1
      go_wp2_with fail
      refine (awake3_any _).mono ?_
      rintro e w4 ⟨rfl, hb4⟩
      have hB4 := hB2.trans (hb4.mono hB2.size)
      go_wp2_with fail
      go_ret
      exact ⟨rfl, hB4⟩
theorem shareSum_walk (x : Int) (v : Value) (n : Nat) (f : Nat → Int) (w : World) (h : ListAt w .i64 v n f) :
    Calls Try.prog 4 #[.int .i64 x, v] w fun e w' => e = .returned (.bool true) ∧ Below w.heap.size w w' := by
  rcases Nat.eq_zero_or_pos n with hz | hz
  · subst hz
    exact shareSum_none x v f w h
  · exact shareSum_some x v n f w h hz
end Go.Proofs.Ytnjegnmkabnkkaa
