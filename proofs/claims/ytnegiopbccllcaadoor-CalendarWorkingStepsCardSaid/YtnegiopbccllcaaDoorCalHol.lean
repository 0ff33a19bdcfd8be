/- What Holidays of the made inputs returns: some list of numbers. Condition: the list's cells are known. -/
import Derived.Test.YtnegiopbccllcaaDoorCalAsc
namespace Go.Proofs.YtnegiopbccllcaaDoor
open Go.RowKit

/-- The made days so far. -/
def DaysAt (w : World) (B n : Nat) : Prop := ∃ g : Nat → Int, Ints w B n g ∧ ∀ i, 0 ≤ g i ∧ g i < 36525
theorem DaysAt.set {w : World} {B n : Nat} (h : DaysAt w B n) (i : Nat) (x : Int) (hx : 0 ≤ x ∧ x < 36525) : DaysAt (w.setCell ⟨B, i, none⟩ (.int .i64 x)) B n := by
  obtain ⟨g, h1, h2⟩ := h
  refine ⟨fun j => if j = i then x else g j, h1.set i x _ (fun _ _ => rfl), fun j => ?_⟩
  by_cases e : j = i
  · simp only [e, if_pos]; exact hx
  · simp only [if_neg e]; exact h2 j

set_option maxRecDepth 100000 in
set_option maxHeartbeats 1600000 in
theorem madeHolidays_any (v : Value) (n : Nat) (f : Nat → Int) (w : World) (h : ListAt w .i64 v n f) :
    Calls Tryd.prog 22 #[v] w fun e w' => ∃ (u : Value) (n2 : Nat) (g : Nat → Int), e = .returned u ∧ ListAt w' .i64 u n2 g ∧ Below w.heap.size w w' := by
  have HCut := Lib.hid (cut_any 300 v n f w h)
  have HDay := Lib.hid (fun (x : Int) (w : World) => madeDay_any x w)
  clear h
  go_enter Tryd.func22, Tryd.ntmps22
  go_wp2_with fail
  refine HCut.out.mono ?_
  rintro e w1 ⟨u, rfl, hu, rfl⟩
  have hm : min n 300 ≤ 300 := by omega
  clear HCut
  generalize min n 300 = m at *
  have hmk := fun W => (ints_made m (by omega) W).1
  have hI0 := Lib.hid (show DaysAt (w.alloc (.cells (madeCells #[.int .i64 0] m) 3)) w.heap.size m from ⟨_, (ints_made m (by omega) w).2, fun i => by simp⟩)
  have hB0 := Lib.hid (show Below w.heap.size w (w.alloc (.cells (madeCells #[.int .i64 0] m) 3)) from (Below.refl _ _).alloc (Nat.le_refl _) _)
  have HA := Lib.hid (fun (W : World) (hb : Below w.heap.size w W) (hd : DaysAt W w.heap.size m) => by
    obtain ⟨g, h1, h2⟩ := hd
    exact ascending_any (.slice (some ⟨w.heap.size, 0, none⟩) m m) m g W (.inr ⟨_, m, rfl, Nat.le_refl _, by unfold maxLen; omega, fun i hi => ⟨by rw [Addr.add_lit, Nat.zero_add]; exact (h1.1 i hi).1, by
      have := h2 i
      simp [Lit.wf, IntKind.min, IntKind.max, IntKind.signed, IntKind.bits]
      omega⟩⟩) hm)
  rcases hu with ⟨rfl, rfl⟩ | ⟨a, cap, rfl, h1, h2, h3⟩
  · have hmk0 : ∀ W : World, (Instr.makeSlice 38 (.int .i64 0) (.int .i64 0)).run Tryd.prog W = .ok (.slice (some ⟨W.heap.size, 0, none⟩) 0 0) (W.alloc (.cells (madeCells #[.int .i64 0] 0) 3)) := hmk
    clear hmk
    go_wp2_with fail
    clear hmk0
    obtain ⟨B, hBB⟩ : ∃ B, B = w.heap.size := ⟨_, rfl⟩
    rw [← hBB] at HA ⊢
    have HBB := Lib.hid hBB
    clear hBB
    generalize w.alloc (.cells (madeCells #[.int .i64 0] 0) 3) = W1 at *
    go_loop [4] (fun vi => vi = .int .i64 0) (fun _ => 0)
    case atStart => rfl
    case round =>
      subst hrel
      have HA2 := Lib.hid (HA.out _ (by rw [HBB.out]; exact hB0.out) (by rw [HBB.out]; exact hI0.out))
      clear HA
      go_wp2_with fail
      refine HA2.out.mono ?_
      rintro e w2 ⟨u2, L, rfl, _, o1, o2⟩
      go_wp2_with fail
      go_ret
      exact ⟨_, _, _, rfl, o1.at_, hB0.out.trans (o2.mono hB0.out.size)⟩
  · have HC := Lib.hid (fun (W : World) (hb : Below w.heap.size w W) (i : Nat) (hi : i < m) => (hb.cell (World.block_lt_of_cell? w _ (h3 i hi).1)).trans (h3 i hi).1)
    clear h3
    have hcap : m ≤ 9223372036854775807 := by omega
    go_wp2_with fail
    clear hmk
    obtain ⟨B, hBB⟩ : ∃ B, B = w.heap.size := ⟨_, rfl⟩
    rw [← hBB] at hI0 HA ⊢
    have HBB := Lib.hid hBB
    clear hBB
    generalize w.alloc (.cells (madeCells #[.int .i64 0] m) 3) = W1 at *
    go_loopw [4] (fun vi wx => ∃ i : Nat, vi = .int .i64 i ∧ i ≤ m ∧ Hid (DaysAt wx B m) ∧ Hid (Below w.heap.size w wx)) (fun vi _ => m - (intOf vi).toNat)
    case atStart => exact ⟨0, by go_num, by omega, hI0, hB0⟩
    case round =>
      clear hI0 hB0
      obtain ⟨i, rfl, hi, hD, hB⟩ := hrel
      by_cases hlt : i < m
      · have hx := HC.out _ hB.out i hlt
        have HC2 := Lib.hid (fun k p => HC.out _ (hB.out.setCell (p := ⟨B, k, none⟩) (by rw [HBB.out]; exact Nat.le_refl _) p) i hlt)
        obtain ⟨g, g1, g2⟩ := hD.out
        have c1 := (g1.1 i hlt).1
        have f1 := (g1.1 i hlt).2
        have hx2 := HC2.out i (.int .i64 (f i % 36525))
        have hdy := HDay.out (f i)
        have HDy := Lib.hid hdy
        have hr : 0 ≤ f i % 36525 ∧ f i % 36525 < 36525 := ⟨Int.emod_nonneg _ (by omega), Int.emod_lt_of_pos _ (by omega)⟩
        have hN := Lib.hid (hD.out.set i (f i % 36525) hr)
        have hBN := Lib.hid (hB.out.setCell (p := ⟨B, i, none⟩) (by rw [HBB.out]; exact Nat.le_refl _) (.int .i64 (f i % 36525)))
        have hBle : w.heap.size ≤ B := by rw [HBB.out]; exact Nat.le_refl _
        clear hdy g1 g2 hD hB HC HC2 HDay HA HBB
        generalize f i % 36525 = y at *
        generalize f i = x at *
        go_wp2_with fail
        refine (HDy.out _).mono ?_
        rintro e w2 ⟨rfl, rfl⟩
        have hBs := Lib.hid (show w.heap.size ≤ (⟨B, i, none⟩ : Addr).block from hBle)
        have hr60 : 0 ≤ y % 60 ∧ y % 60 < 36525 := ⟨Int.emod_nonneg _ (by omega), by have := Int.emod_lt_of_pos y (show (0 : Int) < 60 by omega); omega⟩
        have hN2 := Lib.hid (hN.out.set i (y % 60) hr60)
        have hBN2 := Lib.hid (hBN.out.setCell hBs.out (.int .i64 (y % 60)))
        go_wp2_with fail
        all_goals
          go_roundw
          case rel => first | exact ⟨i + 1, by go_num, by omega, hN, hBN⟩ | exact ⟨i + 1, by go_num, by omega, hN2, hBN2⟩
          case measure => simp [intOf]; omega
      · obtain rfl : i = m := by omega
        have HA2 := Lib.hid (HA.out _ (by rw [HBB.out]; exact hB.out) hD.out)
        clear HC HA
        go_wp2_with fail
        refine HA2.out.mono ?_
        rintro e w2 ⟨u2, L, rfl, _, o1, o2⟩
        go_wp2_with fail
        go_ret
        exact ⟨_, _, _, rfl, o1.at_, hB.out.trans (o2.mono hB.out.size)⟩
end Go.Proofs.YtnegiopbccllcaaDoor
