/- What the helpers of layer 3's laws return: weights and totals made of any numbers. Condition: the list's cells are known. -/
import Derived.Test.YtnjegnmkabnkkaaShareRef2
namespace Go.Proofs.Ytnjegnmkabnkkaa
open Go.RowKit

/-- A number from 0 to the greatest amount; a small one. -/
def absOf (x : Int) : Int := max (x.tmod 1000000000001) (-(x.tmod 1000000000001))
theorem absOf_bounds (x : Int) : 0 ≤ absOf x ∧ absOf x ≤ 1000000000000 := by
  unfold absOf
  have h1 := Int.tmod_lt_of_pos x (show (0 : Int) < 1000000000001 by omega)
  have h2 := Int.lt_tmod_of_pos x (show (0 : Int) < 1000000000001 by omega)
  omega
def wtOf (small : Bool) (x : Int) : Int := if small then (absOf x).tmod 5 else absOf x
def totOf (small : Bool) (x : Int) : Int := if small then (absOf x).tmod 50 else absOf x
theorem tmod_bounds {x m : Int} (h : 0 ≤ x) (hm : 0 < m) : 0 ≤ x.tmod m ∧ x.tmod m < m ∧ x.tmod m ≤ x := by
  refine ⟨Int.tmod_nonneg _ h, Int.tmod_lt_of_pos _ hm, ?_⟩
  rw [Int.tmod_eq_emod_of_nonneg h]
  have := Int.emod_add_mul_ediv x m
  have h2 : 0 ≤ m * (x / m) := Int.mul_nonneg (by omega) (Int.ediv_nonneg h (by omega))
  omega
theorem wtOf_bounds (small : Bool) (x : Int) : 0 ≤ wtOf small x ∧ wtOf small x ≤ 1000000000000 := by
  have h := absOf_bounds x
  unfold wtOf
  split
  · have := tmod_bounds h.1 (show (0 : Int) < 5 by omega)
    omega
  · exact h
theorem totOf_bounds (small : Bool) (x : Int) : 0 ≤ totOf small x ∧ totOf small x ≤ 1000000000000 := by
  have h := absOf_bounds x
  unfold totOf
  split
  · have := tmod_bounds h.1 (show (0 : Int) < 50 by omega)
    omega
  · exact h

theorem wt_true (x : Int) : wtOf true x = absOf x % 5 := Int.tmod_eq_emod_of_nonneg (absOf_bounds x).1
theorem wt_false (x : Int) : wtOf false x = absOf x := rfl
theorem tot_true (x : Int) : totOf true x = absOf x % 50 := Int.tmod_eq_emod_of_nonneg (absOf_bounds x).1
theorem tot_false (x : Int) : totOf false x = absOf x := rfl

set_option maxHeartbeats 400000 in
theorem total_any (x : Int) (small : Bool) (w : World) : Calls Try.prog 10 #[.int .i64 x, .bool small] w fun e w' => e = .returned (.int .i64 (totOf small x)) ∧ w = w' := by
  have hb := absOf_bounds x
  have h1 := Int.tmod_lt_of_pos x (show (0 : Int) < 1000000000001 by omega)
  have h2 := Int.lt_tmod_of_pos x (show (0 : Int) < 1000000000001 by omega)
  have HT := Lib.hid (tot_true x)
  have HF := Lib.hid (tot_false x)
  cases small with
  | true =>
    go_enter Try.func10, Try.ntmps10
    go_wp2
    all_goals
      go_ret
      refine ⟨congrArg (fun z => Ending.returned (Value.int .i64 z)) ?_, rfl⟩
      rw [HT.out]
      unfold absOf
      omega
  | false =>
    go_enter Try.func10, Try.ntmps10
    go_wp2
    all_goals
      go_ret
      refine ⟨congrArg (fun z => Ending.returned (Value.int .i64 z)) ?_, rfl⟩
      rw [HF.out]
      unfold absOf
      omega

/-- The loop of weights, over a list of at most 60. -/
theorem cell_keep {w w1 : World} {a : Addr} {v : Value} (hb : Below w.heap.size w w1) (h : w.cell? a = some v) : w1.cell? a = some v := (hb.cell (World.block_lt_of_cell? w _ h)).trans h

set_option maxHeartbeats 1600000 in
theorem weights_some (small : Bool) (a : Addr) (n cap m : Nat) (f : Nat → Int) (w : World) (hcap : n ≤ cap) (hm : (n ≤ 60 ∧ m = n) ∨ (60 < n ∧ m = 60)) (hc : ∀ i, i < n → w.cell? (a.add i) = some (.int .i64 (f i))) :
    Calls Try.prog 11 #[.slice (some a) n cap, .bool small] w fun e w' => ∃ B : Nat, e = .returned (.slice (some ⟨B, 0, none⟩) m m) ∧ Ints w' B m (fun i => wtOf small (f i)) ∧ w.heap.size ≤ B ∧ Below w.heap.size w w' := by
  obtain ⟨hmk, hI0⟩ := ints_made m (by omega) w
  have hB0 : Below w.heap.size w (w.alloc (.cells (madeCells #[.int .i64 0] m) 3)) := (Below.refl _ _).alloc (Nat.le_refl _) _
  generalize w.alloc (.cells (madeCells #[.int .i64 0] m) 3) = W at *
  rcases hm with ⟨h60, rfl⟩ | ⟨h60, rfl⟩
  · have d0 : decide ((60 : Int) < (m : Int)) = false := decide_eq_false (by omega)
    go_enter Try.func11, Try.ntmps11
    go_wp2_with fail
    go_loopw [6] (fun i wr => ∃ k : Nat, k ≤ m ∧ i = .int .i64 k ∧ Hid (Ints wr w.heap.size m (fun j => if j < k then wtOf small (f j) else 0)) ∧ Below w.heap.size w wr) (fun i _ => m - (intOf i).toNat)
    case atStart => exact ⟨0, Nat.zero_le _, rfl, Lib.hid (hI0.congr (fun _ _ => rfl)), hB0⟩
    case round =>
      obtain ⟨k, hk, rfl, hI, hB⟩ := hrel
      by_cases hlt : k < m
      · have hcell := cell_keep hB (hc k hlt)
        obtain ⟨d1, d2⟩ := hI.out.1 k hlt
        have h1 := Int.tmod_lt_of_pos (f k) (show (0 : Int) < 1000000000001 by omega)
        have h2 := Int.lt_tmod_of_pos (f k) (show (0 : Int) < 1000000000001 by omega)
        have hmx : (if (f k).tmod 1000000000001 < -(f k).tmod 1000000000001 then -(f k).tmod 1000000000001 else (f k).tmod 1000000000001) = absOf (f k) := by
          unfold absOf
          split <;> omega
        have hy := absOf_bounds (f k)
        have hw : ∀ b, wtOf b (f k) = if b then absOf (f k) % 5 else absOf (f k) := fun b => by
          cases b
          · rfl
          · exact wt_true (f k)
        have hI1 := hI.out.set k (absOf (f k)) (fun j => if j = k then absOf (f k) else if j < k then wtOf small (f j) else 0) (fun j _ => rfl)
        have e0 : ∀ j, (if j < k + 1 then wtOf small (f j) else 0) = if j = k then wtOf small (f k) else if j < k then wtOf small (f j) else 0 := fun j => by
          by_cases e : j = k
          · subst e; simp
          · by_cases h2 : j < k
            · rw [if_pos (by omega), if_neg e, if_pos h2]
            · rw [if_neg (by omega), if_neg e, if_neg h2]
        have HE0 := Lib.hid e0
        have HW := Lib.hid hw
        have HMX := Lib.hid hmx
        clear hc e0 hw hmx
        simp only [Nat.lt_irrefl, if_false] at d1
        go_wp2_with fail
        go_region
        rw [HMX.out]
        obtain ⟨d3, d4⟩ := hI1.1 k hlt
        simp only [if_true] at d3
        have HI1 := Lib.hid hI1
        have HI2 := Lib.hid (hI1.set k (wtOf small (f k)) (fun j => if j < k + 1 then wtOf small (f j) else 0) (fun j _ => by
          rw [HE0.out]
          by_cases e : j = k
          · rw [if_pos e, if_pos e]
          · rw [if_neg e, if_neg e, if_neg e]))
        have hB1 : Below w.heap.size w (wr.setCell ⟨w.heap.size, k, none⟩ (.int .i64 (absOf (f k)))) := hB.setCell (Nat.le_refl _) _
        clear d1 hI1 hI
        cases small with
        | true =>
          have hv := HW.out true
          have hi2 := HI2.out
          rw [hv] at hi2
          simp only [if_true] at hi2
          have HI3 := Lib.hid hi2
          clear HMX HW h1 h2 hcell HI2 hv hi2
          generalize absOf (f k) = y at *
          have hB2 : Below w.heap.size w ((wr.setCell ⟨w.heap.size, k, none⟩ (.int .i64 y)).setCell ⟨w.heap.size, k, none⟩ (.int .i64 (y % 5))) := hB1.setCell (Nat.le_refl _) _
          generalize wr.setCell ⟨w.heap.size, k, none⟩ (.int .i64 y) = W1 at *
          go_wp2_with fail
          go_roundw
          case rel => exact ⟨k + 1, by omega, by go_num, HI3, hB2.drew⟩
          case measure => simp [intOf]; omega
        | false =>
          have hi2 : Ints (wr.setCell ⟨w.heap.size, k, none⟩ (.int .i64 (absOf (f k)))) w.heap.size m (fun j => if j < k + 1 then wtOf false (f j) else 0) := HI1.out.congr (fun j _ => by rw [HE0.out]; rfl)
          have HI3 := Lib.hid hi2
          clear HMX HW h1 h2 hcell HI2 hi2
          generalize absOf (f k) = y at *
          generalize wr.setCell ⟨w.heap.size, k, none⟩ (.int .i64 y) = W1 at *
          go_wp2_with fail
          go_roundw
          case rel => exact ⟨k + 1, by omega, by go_num, HI3, hB1.drew⟩
          case measure => simp [intOf]; omega
      · have : k = m := by omega
        subst this
        have HF := Lib.hid (hI.out.congr (g := fun i => wtOf small (f i)) (fun i hi => if_pos hi))
        clear hI hc
        go_wp2_with fail
        go_ret
        exact ⟨w.heap.size, rfl, HF.out, Nat.le_refl _, hB⟩
  · have d0 : decide ((60 : Int) < (n : Int)) = true := decide_eq_true (by omega)
    have hc60 : ∀ i, i < 60 → w.cell? (a.add i) = some (.int .i64 (f i)) := fun i hi => hc i (by omega)
    have hmk : (Instr.makeSlice 22 (.int .i64 60) (.int .i64 60)).run Try.prog w = .ok (.slice (some ⟨w.heap.size, 0, none⟩) 60 60) W := hmk
    clear hc
    go_enter Try.func11, Try.ntmps11
    go_wp2_with fail
    go_loopw [6] (fun i wr => ∃ k : Nat, k ≤ 60 ∧ i = .int .i64 k ∧ Hid (Ints wr w.heap.size 60 (fun j => if j < k then wtOf small (f j) else 0)) ∧ Below w.heap.size w wr) (fun i _ => 60 - (intOf i).toNat)
    case atStart => exact ⟨0, Nat.zero_le _, rfl, Lib.hid (hI0.congr (fun _ _ => rfl)), hB0⟩
    case round =>
      obtain ⟨k, hk, rfl, hI, hB⟩ := hrel
      by_cases hlt : k < 60
      · have hcell := cell_keep hB (hc60 k hlt)
        obtain ⟨d1, d2⟩ := hI.out.1 k hlt
        have h1 := Int.tmod_lt_of_pos (f k) (show (0 : Int) < 1000000000001 by omega)
        have h2 := Int.lt_tmod_of_pos (f k) (show (0 : Int) < 1000000000001 by omega)
        have hmx : (if (f k).tmod 1000000000001 < -(f k).tmod 1000000000001 then -(f k).tmod 1000000000001 else (f k).tmod 1000000000001) = absOf (f k) := by
          unfold absOf
          split <;> omega
        have hy := absOf_bounds (f k)
        have hw : ∀ b, wtOf b (f k) = if b then absOf (f k) % 5 else absOf (f k) := fun b => by
          cases b
          · rfl
          · exact wt_true (f k)
        have hI1 := hI.out.set k (absOf (f k)) (fun j => if j = k then absOf (f k) else if j < k then wtOf small (f j) else 0) (fun j _ => rfl)
        have e0 : ∀ j, (if j < k + 1 then wtOf small (f j) else 0) = if j = k then wtOf small (f k) else if j < k then wtOf small (f j) else 0 := fun j => by
          by_cases e : j = k
          · subst e; simp
          · by_cases h2 : j < k
            · rw [if_pos (by omega), if_neg e, if_pos h2]
            · rw [if_neg (by omega), if_neg e, if_neg h2]
        have HE0 := Lib.hid e0
        have HW := Lib.hid hw
        have HMX := Lib.hid hmx
        clear hc60 e0 hw hmx
        simp only [Nat.lt_irrefl, if_false] at d1
        go_wp2_with fail
        go_region
        rw [HMX.out]
        obtain ⟨d3, d4⟩ := hI1.1 k hlt
        simp only [if_true] at d3
        have HI1 := Lib.hid hI1
        have HI2 := Lib.hid (hI1.set k (wtOf small (f k)) (fun j => if j < k + 1 then wtOf small (f j) else 0) (fun j _ => by
          rw [HE0.out]
          by_cases e : j = k
          · rw [if_pos e, if_pos e]
          · rw [if_neg e, if_neg e, if_neg e]))
        have hB1 : Below w.heap.size w (wr.setCell ⟨w.heap.size, k, none⟩ (.int .i64 (absOf (f k)))) := hB.setCell (Nat.le_refl _) _
        clear d1 hI1 hI
        cases small with
        | true =>
          have hv := HW.out true
          have hi2 := HI2.out
          rw [hv] at hi2
          simp only [if_true] at hi2
          have HI3 := Lib.hid hi2
          clear HMX HW h1 h2 hcell HI2 hv hi2
          generalize absOf (f k) = y at *
          have hB2 : Below w.heap.size w ((wr.setCell ⟨w.heap.size, k, none⟩ (.int .i64 y)).setCell ⟨w.heap.size, k, none⟩ (.int .i64 (y % 5))) := hB1.setCell (Nat.le_refl _) _
          generalize wr.setCell ⟨w.heap.size, k, none⟩ (.int .i64 y) = W1 at *
          go_wp2_with fail
          go_roundw
          case rel => exact ⟨k + 1, by omega, by go_num, HI3, hB2.drew⟩
          case measure => simp [intOf]; omega
        | false =>
          have hi2 : Ints (wr.setCell ⟨w.heap.size, k, none⟩ (.int .i64 (absOf (f k)))) w.heap.size 60 (fun j => if j < k + 1 then wtOf false (f j) else 0) := HI1.out.congr (fun j _ => by rw [HE0.out]; rfl)
          have HI3 := Lib.hid hi2
          clear HMX HW h1 h2 hcell HI2 hi2
          generalize absOf (f k) = y at *
          generalize wr.setCell ⟨w.heap.size, k, none⟩ (.int .i64 y) = W1 at *
          go_wp2_with fail
          go_roundw
          case rel => exact ⟨k + 1, by omega, by go_num, HI3, hB1.drew⟩
          case measure => simp [intOf]; omega
      · have : k = 60 := by omega
        subst this
        have HF := Lib.hid (hI.out.congr (g := fun i => wtOf small (f i)) (fun i hi => if_pos hi))
        clear hI hc60
        go_wp2_with fail
        go_ret
        exact ⟨w.heap.size, rfl, HF.out, Nat.le_refl _, hB⟩

set_option maxHeartbeats 400000 in
theorem weights_nil (small : Bool) (w : World) :
    Calls Try.prog 11 #[.slice none 0 0, .bool small] w fun e w' => ∃ B : Nat, e = .returned (.slice (some ⟨B, 0, none⟩) 0 0) ∧ B < w'.heap.size ∧ w.heap.size ≤ B ∧ Below w.heap.size w w' := by
  have hm0 := fun W => (ints_made 0 (by omega) W).1
  have hmk : ∀ W : World, (Instr.makeSlice 22 (.int .i64 0) (.int .i64 0)).run Try.prog W = .ok (.slice (some ⟨W.heap.size, 0, none⟩) 0 0) (W.alloc (.cells (madeCells #[.int .i64 0] 0) 3)) := hm0
  clear hm0
  go_enter Try.func11, Try.ntmps11
  go_wp2_with fail
  go_loop [6] (fun i => i = .int .i64 0) (fun _ => 0)
  case atStart => rfl
  case round =>
    subst hrel
    go_wp2_with fail
    go_ret
    exact ⟨w.heap.size, rfl, by simp, Nat.le_refl _, (Below.refl _ _).alloc (Nat.le_refl _) _⟩

/-- How many weights are made. -/
def cut60 (n : Nat) : Nat := if 60 < n then 60 else n
theorem cut60_le (n : Nat) : cut60 n ≤ 60 := by unfold cut60; split <;> omega
/-- The weights are a list of the call's own. -/
theorem weights_any (small : Bool) (v : Value) (n : Nat) (f : Nat → Int) (w : World) (h : ListAt w .i64 v n f) :
    Calls Try.prog 11 #[v, .bool small] w fun e w' => ∃ B : Nat, e = .returned (.slice (some ⟨B, 0, none⟩) (cut60 n) (cut60 n)) ∧ Ints w' B (cut60 n) (fun i => wtOf small (f i)) ∧ w.heap.size ≤ B ∧ Below w.heap.size w w' := by
  rcases h with ⟨rfl, rfl⟩ | ⟨a, cap, rfl, h1, h2, h3⟩
  · refine (weights_nil small w).mono fun e w' ⟨B, he, hB, hn, hb⟩ => ⟨B, he, ⟨fun j hj => absurd hj (Nat.not_lt_zero j), hB⟩, hn, hb⟩
  · exact weights_some small a n cap (cut60 n) f w h1 (by unfold cut60; split <;> omega) (fun i hi => (h3 i hi).1)
/-- A list of the call's own, as a list. -/
theorem Ints.list {w : World} {B n : Nat} {f : Nat → Int} (h : Ints w B n f) (hn : n ≤ 1000000) (hwf : ∀ i, i < n → (Lit.int .i64 (f i)).wf = true) : ListAt w .i64 (.slice (some ⟨B, 0, none⟩) n n) n f := by
  refine .inr ⟨_, _, rfl, Nat.le_refl _, by unfold maxLen; omega, fun i hi => ⟨?_, hwf i hi⟩⟩
  have := h.at_ 0 i (by omega)
  rw [Nat.zero_add] at this
  exact this
theorem wt_wf (small : Bool) (x : Int) : (Lit.int .i64 (wtOf small x)).wf = true := small_wf (by have := wtOf_bounds small x; omega)
end Go.Proofs.Ytnjegnmkabnkkaa
