/- Lists of integers that a call makes: a block of its own. No condition. -/
import Derived.Test.YtenlfapdmknkjaaBase
import Derived.Test.YtenlfapdmknkjaaLawRow
import Derived.OwnWalk
import Derived.Laws.MakeOwn
import Derived.Laws.IdiomStrings
namespace Go.Proofs.Ytenlfapdmknkjaa
open Go.RowKit

theorem info_int : (Try.prog.info? 3).map (fun i => (i.zero, i.size, i.bytes)) = some (some (.int .i64 0), 1, 8) := by kernel_rfl

/-- Block b holds the numbers f 0 .. f (n - 1), and they may be written. -/
def Ints (w : World) (b n : Nat) (f : Nat → Int) : Prop :=
  (∀ j, j < n → w.cell? ⟨b, j, none⟩ = some (.int .i64 (f j)) ∧ w.frozen? ⟨b, j, none⟩ = false) ∧ b < w.heap.size
theorem Ints.keep {w w1 : World} {b n : Nat} {f : Nat → Int} (h : Ints w b n f) (hb : Below w.heap.size w w1) : Ints w1 b n f := by
  obtain ⟨hc, hf⟩ := bcell hb
  exact ⟨fun j hj => ⟨(hc b j h.2).trans (h.1 j hj).1, (hf b j h.2).trans (h.1 j hj).2⟩, Nat.lt_of_lt_of_le h.2 hb.size⟩
theorem Ints.set {w : World} {b n : Nat} {f : Nat → Int} (h : Ints w b n f) (i : Nat) (v : Int) (g : Nat → Int) (hg : ∀ j, j < n → g j = if j = i then v else f j) :
    Ints (w.setCell ⟨b, i, none⟩ (.int .i64 v)) b n g := by
  refine ⟨fun j hj => ?_, by simpa [World.setCell] using h.2⟩
  obtain ⟨c1, f1⟩ := h.1 j hj
  refine ⟨?_, (World.frozen?_setCell _ _ _ _).trans f1⟩
  rw [hg j hj]
  by_cases e : j = i
  · subst e
    rw [if_pos rfl]
    exact World.cell?_setCell_same w _ _ c1
  · rw [if_neg e]
    have hne : (⟨b, i, none⟩ : Addr) ≠ ⟨b, j, none⟩ := fun h => e (by injection h with _ h2; exact h2.symm)
    exact (World.cell?_setCell_other w _ _ _ hne).trans c1
theorem ints_made (n : Nat) (hn : n ≤ 1000000) (w : World) : (Instr.makeSlice 29 (.int .i64 (n : Int)) (.int .i64 (n : Int))).run Try.prog w = .ok (.slice (some ⟨w.heap.size, 0, none⟩) n n) (w.alloc (.cells (madeCells #[.int .i64 0] n) 3)) ∧
    Ints (w.alloc (.cells (madeCells #[.int .i64 0] n) 3)) w.heap.size n (fun _ => 0) := by
  obtain ⟨i0, hi, hz0, hz1, hz2⟩ := info_parts info_int
  constructor
  · have h := run_make (P := Try.prog) w 29 3 i0 _ Try.underlying29 hi hz0 .i64 .i64 (n : Int) (n : Int) (by omega) (by omega) (by rw [hz2]; omega) (by omega)
    simpa [hz1, Value.cells] using h
  · refine ⟨fun j hj => ?_, by simp⟩
    have hc : (madeCells #[.int .i64 0] n)[j]? = some (.int .i64 0) := by
      simp [madeCells, hj, Nat.mod_one]
    constructor
    · refine (World.cell?_alloc_mark w _ _ _ j).trans hc
    · exact (World.frozen?_alloc_mark w _ _ 0 0 j).trans (by simp)
theorem Ints.at_ {w : World} {b n : Nat} {f : Nat → Int} (h : Ints w b n f) (k j : Nat) (hj : k + j < n) : w.cell? ((⟨b, k, none⟩ : Addr).add j) = some (.int .i64 (f (k + j))) := by
  have e : (⟨b, k, none⟩ : Addr).add j = ⟨b, k + j, none⟩ := by
    unfold Addr.add
    by_cases hz : j = 0 <;> simp [hz]
  rw [e]
  exact (h.1 (k + j) hj).1
/-- A list that was made stays behind a write elsewhere. -/
theorem Ints.other {w : World} {b n d o : Nat} {f : Nat → Int} {v : Value} (h : Ints w b n f) (hne : d ≠ b) : Ints (w.setCell ⟨d, o, none⟩ v) b n f := by
  refine ⟨fun j hj => ?_, by simpa [World.setCell] using h.2⟩
  obtain ⟨c1, f1⟩ := h.1 j hj
  refine ⟨(World.cell?_setCell_other w _ _ _ (fun e => hne (by injection e))).trans c1, (World.frozen?_setCell _ _ _ _).trans f1⟩
theorem Ints.congr {w : World} {b n : Nat} {f g : Nat → Int} (h : Ints w b n f) (e : ∀ i, i < n → f i = g i) : Ints w b n g :=
  ⟨fun j hj => by rw [← e j hj]; exact h.1 j hj, h.2⟩
theorem Ints.alloc {w : World} {b n : Nat} {f : Nat → Int} (h : Ints w b n f) (o : Obj) : Ints (w.alloc o) b n f := h.keep ((Below.refl _ _).alloc (Nat.le_refl _) _)
end Go.Proofs.Ytenlfapdmknkjaa
