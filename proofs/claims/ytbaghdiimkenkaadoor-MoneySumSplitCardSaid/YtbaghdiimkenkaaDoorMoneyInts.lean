/- What the law's amounts returns: a new list of small amounts. Condition: the list's cells are known. -/
import Derived.Test.YtbaghdiimkenkaaDoorMoneyScaleWalk
import Derived.Test.YtbaghdiimkenkaaDoorLawRow
import Derived.OwnWalk
import Derived.Laws.MakeOwn
import Derived.Laws.IdiomStrings
namespace Go.Proofs.YtbaghdiimkenkaaDoor
open Go.RowKit

theorem info_int : (Tryd.prog.info? 3).map (fun i => (i.zero, i.size, i.bytes)) = some (some (.int .i64 0), 1, 8) := by kernel_rfl

/-- Block b holds the numbers f 0 .. f (n - 1), and they may be written. -/
def Ints (w : World) (b n : Nat) (f : Nat → Int) : Prop :=
  (∀ j, j < n → w.cell? ⟨b, j, none⟩ = some (.int .i64 (f j)) ∧ w.frozen? ⟨b, j, none⟩ = false) ∧ b < w.heap.size
theorem Ints.keep {w w1 : World} {b n : Nat} {f : Nat → Int} (h : Ints w b n f) (hb : Below w.heap.size w w1) : Ints w1 b n f := by
  obtain ⟨hc, hf⟩ := bcell hb
  exact ⟨fun j hj => ⟨(hc b j h.2).trans (h.1 j hj).1, (hf b j h.2).trans (h.1 j hj).2⟩, Nat.lt_of_lt_of_le h.2 hb.size⟩
theorem Ints.set {w : World} {b n : Nat} {f : Nat → Int} (h : Ints w b n f) (i : Nat) (v : Int) (g : Nat → Int) (hg : ∀ j, j < n → g j = if j = i then v else f j) :
    Ints (w.setCell ⟨b, i, none⟩ (.int .i64 v)) b n g := by
  refine ⟨fun j hj => ?_, by simpa [World.setCell] using h.2⟩
  obtain ⟨c1, f1⟩ := h.1 j hj
  refine ⟨?_, (World.frozen?_setCell _ _ _ _).trans f1⟩
  rw [hg j hj]
  by_cases e : j = i
  · subst e
    rw [if_pos rfl]
    exact World.cell?_setCell_same w _ _ c1
  · rw [if_neg e]
    have hne : (⟨b, i, none⟩ : Addr) ≠ ⟨b, j, none⟩ := fun h => e (by injection h with _ h2; exact h2.symm)
    exact (World.cell?_setCell_other w _ _ _ hne).trans c1
theorem ints_made (n : Nat) (hn : n ≤ 1000000) (w : World) : (Instr.makeSlice 22 (.int .i64 (n : Int)) (.int .i64 (n : Int))).run Tryd.prog w = .ok (.slice (some ⟨w.heap.size, 0, none⟩) n n) (w.alloc (.cells (madeCells #[.int .i64 0] n) 3)) ∧
    Ints (w.alloc (.cells (madeCells #[.int .i64 0] n) 3)) w.heap.size n (fun _ => 0) := by
  obtain ⟨i0, hi, hz0, hz1, hz2⟩ := info_parts info_int
  constructor
  · have h := run_make (P := Tryd.prog) w 22 3 i0 _ Tryd.underlying22 hi hz0 .i64 .i64 (n : Int) (n : Int) (by omega) (by omega) (by rw [hz2]; omega) (by omega)
    simpa [hz1, Value.cells] using h
  · refine ⟨fun j hj => ?_, by simp⟩
    have hc : (madeCells #[.int .i64 0] n)[j]? = some (.int .i64 0) := by
      simp [madeCells, hj, Nat.mod_one]
    constructor
    · refine (World.cell?_alloc_mark w _ _ _ j).trans hc
    · exact (World.frozen?_alloc_mark w _ _ 0 0 j).trans (by simp)

/-- The small amount of a number. -/
def smallOf (n : Int) : Int := (amtOf n).tmod 1000000

set_option maxHeartbeats 800000 in
theorem amounts_any (a : Addr) (n cap : Nat) (f : Nat → Int) (hn : n ≤ 500) (w : World) (hc : ∀ j, j < n → w.cell? (a.add j) = some (.int .i64 (f j))) :
    Calls Tryd.prog 9 #[.slice (some a) n cap, .bool true] w fun e w' => ∃ B : Nat, e = .returned (.slice (some ⟨B, 0, none⟩) n n) ∧ Ints w' B n (fun j => smallOf (f j)) ∧ Below w.heap.size w w' := by
  obtain ⟨hmk, hI⟩ := ints_made n (by omega) w
  have hB0 : Below w.heap.size w (w.alloc (.cells (madeCells #[.int .i64 0] n) 3)) := (Below.refl _ _).alloc (Nat.le_refl _) _
  generalize w.alloc (.cells (madeCells #[.int .i64 0] n) 3) = W at *
  go_enter Tryd.func9, Tryd.ntmps9
  go_wp2_with fail
  go_loopw [6] (fun i wr => ∃ k : Nat, k ≤ n ∧ i = .int .i64 k ∧ Ints wr w.heap.size n (fun j => if j < k then smallOf (f j) else 0) ∧ Below w.heap.size w wr) (fun i _ => n - (intOf i).toNat)
  case atStart => exact ⟨0, Nat.zero_le _, rfl, by simpa using hI, hB0⟩
  case round =>
    obtain ⟨k, hk, rfl, hI, hB⟩ := hrel
    by_cases hlt : k < n
    · have hcell : wr.cell? (a.add k) = some (.int .i64 (f k)) := by
        have h := hc k hlt
        have hb := World.block_lt_of_cell? w _ h
        exact (hB.cell hb).trans h
      obtain ⟨d1, d2⟩ := hI.1 k hlt
      have hI2 := hI.set k (amtOf (f k)) (fun j => if j = k then amtOf (f k) else if j < k then smallOf (f j) else 0) (fun j _ => rfl)
      obtain ⟨d3, d4⟩ := hI2.1 k hlt
      simp only [if_true] at d3
      go_wp2_with fail
      refine (amount_any _ _).mono ?_
      rintro e w0 ⟨rfl, rfl⟩
      go_wp2_with fail
      go_roundw
      case rel =>
        refine ⟨k + 1, by omega, by go_num, ?_, (hB.setCell (Nat.le_refl _) _).setCell (Nat.le_refl _) _⟩
        refine hI2.set k (smallOf (f k)) _ (fun j _ => ?_)
        by_cases e : j = k
        · subst e; simp
        · by_cases e2 : j < k
          · simp [e, e2]; omega
          · simp [e, e2]; omega
      case measure => simp [intOf]; omega
    · have : k = n := by omega
      go_wp2_with fail
      go_ret
      refine ⟨w.heap.size, rfl, ?_, hB⟩
      subst this
      refine ⟨fun j hj => ?_, hI.2⟩
      have := hI.1 j hj
      simpa [hj] using this

set_option maxHeartbeats 400000 in
theorem amounts_nil (w : World) :
    Calls Tryd.prog 9 #[.slice none 0 0, .bool true] w fun e w' => ∃ B : Nat, e = .returned (.slice (some ⟨B, 0, none⟩) 0 0) ∧ B < w'.heap.size ∧ Below w.heap.size w w' := by
  obtain ⟨hmk0, hI⟩ := ints_made 0 (by omega) w
  have hB0 : Below w.heap.size w (w.alloc (.cells (madeCells #[.int .i64 0] 0) 3)) := (Below.refl _ _).alloc (Nat.le_refl _) _
  have hmk : (Instr.makeSlice 22 (.int .i64 0) (.int .i64 0)).run Tryd.prog w = .ok (.slice (some ⟨w.heap.size, 0, none⟩) 0 0) (w.alloc (.cells (madeCells #[.int .i64 0] 0) 3)) := hmk0
  have hlt := hI.2
  clear hI hmk0
  generalize w.alloc (.cells (madeCells #[.int .i64 0] 0) 3) = W at *
  go_enter Tryd.func9, Tryd.ntmps9
  go_wp2_with fail
  go_loopw [6] (fun i wr => i = .int .i64 0 ∧ wr = W) (fun _ _ => 0)
  case atStart => exact ⟨rfl, rfl⟩
  case round =>
    obtain ⟨rfl, rfl⟩ := hrel
    go_wp2_with fail
    go_ret
    exact ⟨w.heap.size, rfl, hlt, hB0⟩

/-- The list as the law's function takes it: no longer than 500. -/
def CutAt (w : World) (v : Value) (n : Nat) (f : Nat → Int) (u : Value) (m : Nat) : Prop :=
  m ≤ 500 ∧ ListAt w .i64 u m f ∧ ((v = .slice none 0 0 ∧ u = v) ∨ (∃ (a : Addr) (cap : Nat), v = .slice (some a) n cap ∧ n ≤ 500 ∧ u = v) ∨ (∃ (a : Addr) (cap : Nat), v = .slice (some a) n cap ∧ 500 < n ∧ n ≤ cap ∧ u = .slice (some a) 500 cap))
theorem cut_of {w : World} {v : Value} {n : Nat} {f : Nat → Int} (h : ListAt w .i64 v n f) : ∃ u m, CutAt w v n f u m := by
  rcases h with ⟨rfl, rfl⟩ | ⟨a, cap, rfl, h1, h2, h3⟩
  · exact ⟨_, 0, by omega, Or.inl ⟨rfl, rfl⟩, Or.inl ⟨rfl, rfl⟩⟩
  · by_cases hn : n ≤ 500
    · exact ⟨_, n, hn, Or.inr ⟨a, cap, rfl, h1, h2, h3⟩, Or.inr (Or.inl ⟨a, cap, rfl, hn, rfl⟩)⟩
    · exact ⟨.slice (some a) 500 cap, 500, by omega, Or.inr ⟨a, cap, rfl, by omega, h2, fun i hi => h3 i (by omega)⟩, Or.inr (Or.inr ⟨a, cap, rfl, by omega, h1, rfl⟩)⟩
theorem amounts_of {w : World} {u : Value} {m : Nat} {f : Nat → Int} (hm : m ≤ 500) (h : ListAt w .i64 u m f) :
    Calls Tryd.prog 9 #[u, .bool true] w fun e w' => ∃ B : Nat, e = .returned (.slice (some ⟨B, 0, none⟩) m m) ∧ Ints w' B m (fun j => smallOf (f j)) ∧ Below w.heap.size w w' := by
  rcases h with ⟨rfl, rfl⟩ | ⟨a, cap, rfl, h1, h2, h3⟩
  · refine (amounts_nil w).mono fun e w' ⟨B, he, hB, hb⟩ => ⟨B, he, ⟨fun j hj => absurd hj (by omega), hB⟩, hb⟩
  · exact amounts_any a m cap f hm w (fun j hj => (h3 j hj).1)
theorem smallOf_bounds (n : Int) : -1000000 < smallOf n ∧ smallOf n < 1000000 :=
  ⟨Int.lt_tmod_of_pos _ (by decide), Int.tmod_lt_of_pos _ (by decide)⟩
end Go.Proofs.YtbaghdiimkenkaaDoor
