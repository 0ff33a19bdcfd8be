/- The table of the package calendar: that it stays as it was laid, and that the first day of a month is what the program reckons out of it. No condition. -/
import Derived.Test.YtnegiopbccllcaaDoorCalSpec
import Derived.Test.YtnegiopbccllcaaDoorBase
import Derived.Lib.LaidTab
namespace Go.Proofs.YtnegiopbccllcaaDoor
open Go.RowKit

/-- The days of a common year before each of its months. -/
def dbTab : List Int := [0, 31, 59, 90, 120, 151, 181, 212, 243, 273, 304, 334]
def dbN (i : Nat) : Nat := [0, 31, 59, 90, 120, 151, 181, 212, 243, 273, 304, 334].getD i 0
theorem db_eq (i : Nat) (hi : i < 12) : dbTab.getD i 0 = (dbN i : Int) := by
  have : ∀ j : Fin 12, dbTab.getD j.val 0 = (dbN j.val : Int) := by decide +kernel
  exact this ⟨i, hi⟩
theorem db_le (i : Nat) (hi : i < 12) : dbN i ≤ 334 := by
  have : ∀ j : Fin 12, dbN j.val ≤ 334 := by decide +kernel
  exact this ⟨i, hi⟩

/-- The first day of a month, as the program reckons it. -/
def fdN (k : Nat) : Nat := k / 12 * 365 + dbN (k % 12) + ((k / 12 + 3) / 4 + if k / 12 % 4 = 0 ∧ 1 < k % 12 then 1 else 0)
theorem fd_step : (List.range 1200).all (fun k => fdN k + lenK k == fdN (k + 1)) = true := by decide +kernel
theorem ms_table : ∀ k, k ≤ 1200 → msK k = fdN k
  | 0, _ => by decide +kernel
  | k + 1, h => by
    have h1 := List.all_eq_true.1 fd_step k (List.mem_range.2 (by omega))
    rw [beq_iff_eq] at h1
    rw [← h1, ← ms_table k (by omega)]
    rfl

theorem varStays {P : Program} {n : String} {cs : Array Value} {w w1 : World} (hb : Below w.heap.size w w1) (h : w.var? P n = some cs) : w1.var? P n = some cs := by
  unfold World.var? at h ⊢
  cases hg : P.globalNamed n with
  | none => rw [hg] at h; exact absurd h (by simp)
  | some g =>
    rw [hg] at h
    simp only [Option.bind_some] at h ⊢
    have hlt : g < w.heap.size := by
      rcases Nat.lt_or_ge g w.heap.size with h1 | h1
      · exact h1
      · rw [Array.getElem?_eq_none h1] at h
        exact absurd h (by simp)
    rw [hb.block g hlt]
    exact h
/-- The package's variable, as its functions read it. -/
structure CalTab (w : World) : Prop where
  tab : Lib.TabIs Tryd.prog w "customs/calendar.daysBefore" .i64 dbTab
theorem CalTab.keep {w w1 : World} (h : CalTab w) (hb : Below w.heap.size w w1) : CalTab w1 := ⟨varStays hb h.tab⟩
theorem CalTab.drewN {w : World} (h : CalTab w) (n : Nat) : CalTab (w.drewN n) := h.keep ⟨rfl, rfl, rfl, Nat.le_refl _, fun _ _ => rfl⟩
theorem CalTab.alloc {w : World} (h : CalTab w) (o : Obj) : CalTab (w.alloc o) := h.keep ((Below.refl _ _).alloc (Nat.le_refl _) _)
theorem CalTab.cell {w : World} (h : CalTab w) (i : Nat) (hi : i < 12) : w.cell? ⟨0, i, none⟩ = some (.int .i64 (dbN i)) := by
  rw [← db_eq i hi]
  exact h.tab.cell (by kernel_rfl) i hi
end Go.Proofs.YtnegiopbccllcaaDoor
