/- The law ShareOrder, walked: it returns true at every input. No condition. -/
import Derived.Test.YtnjegnmkabnkkaaCapBoundsWalk
namespace Go.Proofs.Ytnjegnmkabnkkaa
open Go.RowKit

/-- The order of the shares is that of the weights. -/
theorem order_facts {T : Int} {n : Nat} {g : Nat → Int} (hn1 : 1 ≤ n) (hg : ∀ i, 0 ≤ g i ∧ g i ≤ 1000000000000) (i k : Nat) (hik : i < k) (hk : k < n) :
    (g k ≤ g i → shI T n g k ≤ shI T n g i) ∧ (g i < g k → shI T n g i ≤ shI T n g k) := by
  have h1 := hg i
  have h2 := hg k
  have e1 : wN g i = (g i).toNat := rfl
  have e2 : wN g k = (g k).toNat := rfl
  constructor
  · intro h
    exact Int.ofNat_le.2 (sh_order T.toNat (wN g) n i k hik (by omega))
  · intro h
    exact Int.ofNat_le.2 (sh_order2 T.toNat (wN g) n i k hn1 (by omega) hk)

set_option maxRecDepth 100000 in
set_option maxHeartbeats 1600000 in
theorem shareOrder_some (x : Int) (v : Value) (n : Nat) (f : Nat → Int) (w : World) (h : ListAt w .i64 v n f) (small : Bool) (hn1 : 1 ≤ n) :
    Calls Try.prog 5 #[.int .i64 x, v, .bool small] w fun e w' => e = .returned (.bool true) ∧ Below w.heap.size w w' := by
  have HT := Lib.hid (total_any x small)
  have hW := weights_any small v n f w h
  have hc60 := cut60_le n
  have hm1 : 1 ≤ cut60 n := by unfold cut60; split <;> omega
  have ht := totOf_bounds small x
  obtain ⟨g, hg, hgb⟩ := wt_pack small f
  rw [hg] at hW
  have HW := Lib.hid hW
  have H1 := Lib.hid (fun B (w1 : World) (hI : Ints w1 B (cut60 n) g) => share_any (totOf small x) (.slice (some ⟨B, 0, none⟩) (cut60 n) (cut60 n)) (cut60 n) _ w1 (hI.list (by omega) (fun i _ => small_wf (by have := hgb i; omega))))
  unfold ShareGives at H1
  have hord := fun i k => order_facts (T := totOf small x) (n := cut60 n) (g := g) hm1 hgb i k
  have c1 : shE (totOf small x) (cut60 n) g = 0 := by
    unfold shE
    rw [if_neg (by omega), if_neg (show ¬ (totOf small x < 0 ∨ 1000000000000 < totOf small x ∨ amts0 g (cut60 n) = false) by rw [amts0_of (fun i _ => hgb i)]; simp; omega), if_neg (by omega)]
  have c2 : shN (totOf small x) (cut60 n) g = cut60 n := if_pos c1
  rw [c1, c2] at H1
  generalize shI (totOf small x) (cut60 n) g = c at *
  generalize cut60 n = m at *
  generalize totOf small x = t at *
  clear h c1 c2 hW hg
  go_enter Try.func5, Try.ntmps5
  go_wp2_with fail
  refine (HT.out _).mono ?_
  rintro e w0 ⟨rfl, rfl⟩
  go_wp2_with fail
  refine HW.out.mono ?_
  rintro e w0 ⟨B, rfl, hI, hnB, hb0⟩
  have HI := Lib.hid hI
  clear hI hnB
  go_wp2_with fail
  refine (H1.out B w0 HI.out).mono ?_
  rintro e w1 ⟨u1, rfl, hO1, hb1⟩
  have hB1 := hb0.trans (hb1.mono hb0.size)
  have hI1 := HI.out.keep hb1
  have hl1 := hO1.list
  clear hO1 hb1 hb0 HI H1 HT HW
  rcases hl1 with ⟨_, hz⟩ | ⟨a1, cap1, rfl, _, _, a3⟩
  · omega
  · have e0 : ((m : Int) != (m : Int)) = false := by simp
    go_wp2_with fail
    go_loopw [9] (fun i wx => ∃ j : Nat, j ≤ m ∧ i = .int .i64 j ∧ Below w1.heap.size w1 wx) (fun i _ => m - (intOf i).toNat)
    case atStart => exact ⟨0, Nat.zero_le _, rfl, Below.refl _ _⟩
    case round =>
      obtain ⟨j, hj, rfl, hbx⟩ := hrel
      by_cases hlt : j < m
      · go_wp2_with fail
        go_loopw [10] (fun i wx => ∃ k : Nat, j + 1 ≤ k ∧ k ≤ m ∧ i = .int .i64 k ∧ Below w1.heap.size w1 wx) (fun i _ => m - (intOf i).toNat)
        case atStart => exact ⟨j + 1, Nat.le_refl _, hlt, by go_num, hbx⟩
        case round =>
          obtain ⟨k, hk1, hk2, rfl, hby⟩ := hrel
          by_cases hlt2 : k < m
          · have r1 := cell_keep hby (a3 j hlt).1
            have r2 := cell_keep hby (hI1.1 j hlt).1
            have r3 := cell_keep hby (a3 k hlt2).1
            have r4 := cell_keep hby (hI1.1 k hlt2).1
            have ho := hord j k (by omega) hlt2
            clear hord a3 hI1 hgb hbx
            generalize c j = cj at *
            generalize c k = ck at *
            generalize g j = gj at *
            generalize g k = gk at *
            by_cases hg1 : gk ≤ gj
            · have d1 : decide (gk ≤ gj) = true := decide_eq_true hg1
              have d2 : decide (cj < ck) = false := decide_eq_false (by have := ho.1 hg1; omega)
              have d3 : decide (gj < gk) = false := decide_eq_false (by omega)
              clear ho hg1
              go_wp2_with fail
              go_quiet (fail)
              go_wp2_with fail
              go_roundw
              case rel => exact ⟨k + 1, by omega, by omega, by go_num, below_drewN hby _⟩
              case measure => simp [intOf]; omega
            · have d1 : decide (gk ≤ gj) = false := decide_eq_false hg1
              have d2 : decide (gj < gk) = true := decide_eq_true (by omega)
              have d3 : decide (ck < cj) = false := decide_eq_false (by have := ho.2 (by omega); omega)
              clear ho hg1
              go_wp2_with fail
              go_quiet (fail)
              go_wp2_with fail
              go_roundw
              case rel => exact ⟨k + 1, by omega, by omega, by go_num, below_drewN hby _⟩
              case measure => simp [intOf]; omega
          · have : k = m := by omega
            subst this
            have d0 : decide ((k : Int) < (k : Int)) = false := decide_eq_false (by omega)
            go_wp2_with fail
            go_roundw
            case rel => exact ⟨j + 1, by omega, by go_num, hby⟩
            case measure => simp [intOf]; omega
      · have : j = m := by omega
        subst this
        have d0 : decide ((j : Int) < (j : Int)) = false := decide_eq_false (by omega)
        have hB2 := hB1.trans (hbx.mono hB1.size)
        clear hord a3 hI1 hgb
        go_wp2_with fail
        refine (awake3_any _).mono ?_
        rintro e w4 ⟨rfl, hb4⟩
        have hB3 := hB2.trans (hb4.mono hB2.size)
        go_wp2_with fail
        go_ret
        exact ⟨rfl, hB3⟩

set_option maxRecDepth 100000 in
set_option maxHeartbeats 1600000 in
theorem shareOrder_none (x : Int) (v : Value) (f : Nat → Int) (w : World) (h : ListAt w .i64 v 0 f) (small : Bool) :
    Calls Try.prog 5 #[.int .i64 x, v, .bool small] w fun e w' => e = .returned (.bool true) ∧ Below w.heap.size w w' := by
  have HT := Lib.hid (total_any x small)
  have hW := weights_any small v 0 f w h
  have hcc : cut60 0 = 0 := rfl
  rw [hcc] at hW
  have ht := totOf_bounds small x
  obtain ⟨g, hg, hgb⟩ := wt_pack small f
  rw [hg] at hW
  have HW := Lib.hid hW
  have H1 := Lib.hid (fun B (w1 : World) (hI : Ints w1 B 0 g) => share_any (totOf small x) (.slice (some ⟨B, 0, none⟩) 0 0) 0 _ w1 (hI.list (by omega) (fun i hi => absurd hi (by omega))))
  unfold ShareGives at H1
  have c1 : shE (totOf small x) 0 g = 0 ∨ shE (totOf small x) 0 g = 7 := by
    unfold shE
    rw [if_neg (by omega), if_neg (show ¬ (totOf small x < 0 ∨ 1000000000000 < totOf small x ∨ amts0 g 0 = false) by rw [show amts0 g 0 = true from rfl]; simp; omega)]
    split
    · exact .inr rfl
    · exact .inl rfl
  have c2 : shN (totOf small x) 0 g = 0 := by unfold shN; split <;> rfl
  rw [c2] at H1
  generalize shE (totOf small x) 0 g = E at *
  generalize shI (totOf small x) 0 g = c at *
  generalize totOf small x = t at *
  clear h c2 hW hg hcc
  rcases c1 with rfl | rfl
  all_goals
    go_enter Try.func5, Try.ntmps5
    go_wp2_with fail
    refine (HT.out _).mono ?_
    rintro e w0 ⟨rfl, rfl⟩
    go_wp2_with fail
    refine HW.out.mono ?_
    rintro e w0 ⟨B, rfl, hI, hnB, hb0⟩
    have HI := Lib.hid hI
    clear hI hnB
    go_wp2_with fail
    refine (H1.out B w0 HI.out).mono ?_
    rintro e w1 ⟨u1, rfl, hO1, hb1⟩
    have hB1 := hb0.trans (hb1.mono hb0.size)
    have hl1 := hO1.list
    clear hO1 hb1 hb0 HI H1 HT HW
    first
      | (go_wp2_with fail
         refine (awake3_any _).mono ?_
         rintro e w4 ⟨rfl, hb4⟩
         have hB3 := hB1.trans (hb4.mono hB1.size)
         go_wp2_with fail
         go_ret
         exact ⟨rfl, hB3⟩)
      | (rcases hl1 with ⟨rfl, hz⟩ | ⟨a1, cap1, rfl, _, _, a3⟩
         all_goals
           go_wp2_with fail
           go_loopw [9] (fun i wx => i = .int .i64 0 ∧ Below w1.heap.size w1 wx) (fun _ _ => 0)
           case atStart => exact ⟨rfl, Below.refl _ _⟩
           case round =>
             obtain ⟨rfl, hbx⟩ := hrel
             have hB2 := hB1.trans (hbx.mono hB1.size)
             go_wp2_with fail
             refine (awake3_any _).mono ?_
             rintro e w4 ⟨rfl, hb4⟩
             have hB3 := hB2.trans (hb4.mono hB2.size)
             go_wp2_with fail
             go_ret
             exact ⟨rfl, hB3⟩)
theorem shareOrder_walk (x : Int) (v : Value) (n : Nat) (f : Nat → Int) (w : World) (h : ListAt w .i64 v n f) (small : Bool) :
    Calls Try.prog 5 #[.int .i64 x, v, .bool small] w fun e w' => e = .returned (.bool true) ∧ Below w.heap.size w w' := by
  rcases Nat.eq_zero_or_pos n with hz | hz
  · subst hz
    exact shareOrder_none x v f w h small
  · exact shareOrder_some x v n f w h small hz
end Go.Proofs.Ytnjegnmkabnkkaa
