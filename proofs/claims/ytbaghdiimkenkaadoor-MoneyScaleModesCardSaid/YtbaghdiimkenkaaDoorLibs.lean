/- What the package-level variables of Go's library hold while a law runs: some integer in internal/bytealg.MaxLen, the powers of ten, the two errors of strconv; and that this stays so. No condition. -/
import Derived.Test.YtbaghdiimkenkaaDoorBase
import Derived.Lib.LaidTab
import Derived.Lib.ItoaNum
import Derived.Stop.LaidErr
import Derived.Shelf.Vars
namespace Go.Proofs.YtbaghdiimkenkaaDoor
open Go.RowKit

/-- The library's variables, as its functions read them. -/
structure Libs (w : World) : Prop where
  maxLen : ∃ m, w.cell? ⟨4, 0, none⟩ = some (.int .i64 m)
  pow10 : Lib.TabIs Tryd.prog w "internal/strconv.uint64pow10" .u64 Lib.pow10Tab
  eRange : ∃ tp p, w.var? Tryd.prog "strconv.ErrRange" = some #[.iface tp p]
  eSyntax : ∃ tp p, w.var? Tryd.prog "strconv.ErrSyntax" = some #[.iface tp p]

theorem var_keep {P : Program} {n : String} {cs : Array Value} {w w1 : World} (hb : Below w.heap.size w w1) (h : w.var? P n = some cs) : w1.var? P n = some cs := by
  unfold World.var? at h ⊢
  cases hg : P.globalNamed n with
  | none => rw [hg] at h; exact absurd h (by simp)
  | some g =>
    rw [hg] at h
    simp only [Option.bind_some] at h ⊢
    have hlt : g < w.heap.size := by
      rcases Nat.lt_or_ge g w.heap.size with h1 | h1
      · exact h1
      · rw [Array.getElem?_eq_none h1] at h
        exact absurd h (by simp)
    rw [hb.block g hlt]
    exact h

theorem Libs.keep {w w1 : World} (h : Libs w) (hb : Below w.heap.size w w1) : Libs w1 := by
  obtain ⟨⟨m, h1⟩, h2, ⟨a, b, h3⟩, ⟨c, d, h4⟩⟩ := h
  exact ⟨⟨m, (hb.cell (World.block_lt_of_cell? w _ h1)).trans h1⟩, var_keep hb h2, ⟨a, b, var_keep hb h3⟩, ⟨c, d, var_keep hb h4⟩⟩
theorem Libs.drew {w : World} (h : Libs w) : Libs w.drew := h.keep ⟨rfl, rfl, rfl, Nat.le_refl _, fun _ _ => rfl⟩
theorem Libs.drewN {w : World} (h : Libs w) (n : Nat) : Libs (w.drewN n) := h.keep ⟨rfl, rfl, rfl, Nat.le_refl _, fun _ _ => rfl⟩
theorem Libs.alloc {w : World} (h : Libs w) (o : Obj) : Libs (w.alloc o) := h.keep ((Below.refl _ _).alloc (Nat.le_refl _) _)
end Go.Proofs.YtbaghdiimkenkaaDoor
