/- The made inputs' source of numbers: what Next returns. Condition: the source lies in a block of the call's own, its list in older ones. -/
import Derived.Test.YtenlfapdmknkjaaWithin
import Derived.Test.YtenlfapdmknkjaaLawRow
import Derived.Test.YtenlfapdmknkjaaInts
import Derived.Deep.QuietTactic
import Derived.BigQuiet
import Derived.BigRegion
namespace Go.Proofs.Ytenlfapdmknkjaa
open Go.RowKit

/-- The source in block SB; its list lies in the world W0. -/
structure SourceAt (W0 w : World) (SB : Nat) : Prop where
  own : W0.heap.size ≤ SB
  below : Below W0.heap.size W0 w
  src : ∃ (v : Value) (m : Nat) (f : Nat → Int) (k : Nat), ListAt W0 .i64 v m f ∧ m ≤ 1000000 ∧ k ≤ m ∧ w.cell? ⟨SB, 0, none⟩ = some v ∧ w.cell? ⟨SB, 1, none⟩ = some (.int .i64 k) ∧ w.frozen? ⟨SB, 1, none⟩ = false
theorem SourceAt.keep {W0 w w1 : World} {SB : Nat} (h : SourceAt W0 w SB) (hb : Below w.heap.size w w1) : SourceAt W0 w1 SB := by
  obtain ⟨h1, h2, v, m, f, k, a1, a2, a3, a4, a5, a6⟩ := h
  have hlt := World.block_lt_of_cell? w _ a4
  exact ⟨h1, h2.trans (hb.mono h2.size), v, m, f, k, a1, a2, a3, (hb.cell hlt).trans a4, (hb.cell (p := ⟨SB, 1, none⟩) hlt).trans a5, (hb.frozen (p := ⟨SB, 1, none⟩) hlt).trans a6⟩
/-- What a call of Next does to the world: at most the source's place is written. -/
def NextTo (w w1 : World) (SB : Nat) : Prop := (∃ q, w1 = w.drewN q) ∨ ∃ (k q p : Nat), w1 = ((w.drewN q).setCell ⟨SB, 1, none⟩ (.int .i64 (k : Int))).drewN p
theorem NextTo.below {w w1 : World} {SB B : Nat} (h : NextTo w w1 SB) (hB : B ≤ SB) : Below B w w1 := by
  rcases h with ⟨q, rfl⟩ | ⟨k, q, p, rfl⟩
  · exact below_drewN (Below.refl _ _) _
  · exact below_drewN ((below_drewN (Below.refl _ _) _).setCell hB _) _
theorem NextTo.cell {w w1 : World} {SB : Nat} (h : NextTo w w1 SB) {b o : Nat} (hb : b ≠ SB) : w1.cell? ⟨b, o, none⟩ = w.cell? ⟨b, o, none⟩ ∧ w1.frozen? ⟨b, o, none⟩ = w.frozen? ⟨b, o, none⟩ := by
  rcases h with ⟨q, rfl⟩ | ⟨k, q, p, rfl⟩
  · exact ⟨rfl, rfl⟩
  · exact ⟨World.cell?_setCell_other (w.drewN q) _ _ _ (fun e => hb (by injection e with e1; exact e1.symm)), World.frozen?_setCell _ _ _ _⟩
theorem NextTo.heap {w w1 : World} {SB : Nat} (h : NextTo w w1 SB) {b : Nat} (hb : b ≠ SB) : w1.heap[b]? = w.heap[b]? := by
  rcases h with ⟨q, rfl⟩ | ⟨k, q, p, rfl⟩
  · rfl
  · exact Below.heap_setCell _ _ _ _ hb
theorem NextTo.size {w w1 : World} {SB : Nat} (h : NextTo w w1 SB) : w1.heap.size = w.heap.size := by
  rcases h with ⟨q, rfl⟩ | ⟨k, q, p, rfl⟩
  · rfl
  · show (((w.drewN q).setCell ⟨SB, 1, none⟩ (.int .i64 (k : Int)))).heap.size = _
    simp [World.setCell]

set_option maxRecDepth 100000 in
set_option maxHeartbeats 1600000 in
theorem next_any (n : Int) (h1 : 0 < n) (h2 : n ≤ 1000000000000) (SB : Nat) (W0 w : World) (h : SourceAt W0 w SB) :
    Calls Try.prog 26 #[.pointer (some ⟨SB, 0, none⟩), .int .i64 n] w fun e w1 => ∃ r : Int, e = .returned (.int .i64 r) ∧ 0 ≤ r ∧ r < n ∧ SourceAt W0 w1 SB ∧ NextTo w w1 SB := by
  obtain ⟨hown, hbel, v, m, f, k, a1, a2, a3, a4, a5, a6⟩ := h
  have hform : ∃ a cap, v = .slice a m cap := by
    rcases a1 with ⟨h, h0⟩ | ⟨a, cap, h, _⟩
    · exact ⟨none, 0, by rw [h, h0]⟩
    · exact ⟨some a, cap, h⟩
  have HS := Lib.hid (show SourceAt W0 w SB from ⟨hown, hbel, v, m, f, k, a1, a2, a3, a4, a5, a6⟩)
  by_cases hk : m ≤ k
  · obtain ⟨a, cap, rfl⟩ := hform
    have d1 : decide (m ≤ k) = true := decide_eq_true hk
    go_enter Try.func26, Try.ntmps26
    go_wp2_with fail
    go_quiet (fail)
    go_wp2_with fail
    go_ret
    exact ⟨0, rfl, by omega, h1, HS.out.keep (below_drewN (Below.refl _ _) _), .inl ⟨_, rfl⟩⟩
  · rcases a1 with ⟨_, h0⟩ | ⟨a, cap, rfl, b1, b2, b3⟩
    · omega
    have hx0 := (b3 k (by omega)).1
    have hblk := World.block_lt_of_cell? W0 _ hx0
    have hrow := fun q p => show (((w.drewN q).setCell ⟨SB, 1, none⟩ (.int .i64 ((k : Int) + 1))).drewN p).cell? (a.add k) = some (.int .i64 (f k)) from
      (World.cell?_setCell_other (w.drewN q) _ _ _ (fun e => by rw [← e] at hblk; have : SB < W0.heap.size := hblk; omega)).trans ((hbel.cell hblk).trans hx0)
    have hc0 := fun q p => show (((w.drewN q).setCell ⟨SB, 1, none⟩ (.int .i64 ((k : Int) + 1))).drewN p).cell? ⟨SB, 0, none⟩ = some (.slice (some a) m cap) from
      (World.cell?_setCell_other (w.drewN q) _ _ _ (fun e => by injection e with _ e2; omega)).trans a4
    have hc1 := fun q p => show (((w.drewN q).setCell ⟨SB, 1, none⟩ (.int .i64 ((k : Int) + 1))).drewN p).cell? ⟨SB, 1, none⟩ = some (.int .i64 ((k : Int) + 1)) from
      World.cell?_setCell_same (w.drewN q) _ _ a5
    have HN := Lib.hid (fun q p => show SourceAt W0 (((w.drewN q).setCell ⟨SB, 1, none⟩ (.int .i64 ((k : Int) + 1))).drewN p) SB from
      ⟨hown, below_drewN ((below_drewN hbel _).setCell hown _) _, .slice (some a) m cap, m, f, k + 1, .inr ⟨a, cap, rfl, b1, b2, b3⟩, a2, by omega, hc0 q p, by have := hc1 q p; rw [show (((k + 1 : Nat) : Int)) = (k : Int) + 1 by omega]; exact this, (World.frozen?_setCell _ _ _ _).trans a6⟩)
    have HT := Lib.hid (fun q p => show NextTo w (((w.drewN q).setCell ⟨SB, 1, none⟩ (.int .i64 ((k : Int) + 1))).drewN p) SB from .inr ⟨k + 1, q, p, rfl⟩)
    have d1 : decide (m ≤ k) = false := decide_eq_false hk
    have hw := madeWithin_any (f k) n h1 h2
    have HW := Lib.hid (fun w => (hw w).mono fun _ _ h => (⟨h.1, h.2.symm⟩ : _ ∧ _))
    have hr1 := Int.emod_nonneg (f k) (show n ≠ 0 by omega)
    have hr2 := Int.emod_lt_of_pos (f k) h1
    have b7 : (k : Int) < (m : Int) := by omega
    have b8 : (0 : Int) ≤ (k : Int) := by omega
    have b9 : ((k : Int)).toNat = k := by omega
    have w2 : IntKind.i64.wrap (k : Int) = (k : Int) := by rw [IntKind.wrap_i64]; omega
    have s5 := fun q => show (w.drewN q).cell? ⟨SB, 1, none⟩ = some (.int .i64 (k : Int)) from a5
    have s6 := fun q => show (w.drewN q).frozen? ⟨SB, 1, none⟩ = false from a6
    clear HS hw hx0 b3
    generalize f k % n = y at *
    generalize f k = x at *
    go_enter Try.func26, Try.ntmps26
    go_wp2_with fail
    go_quiet (fail)
    go_wp2_with fail
    go_quiet ((go_at_call 15; refine Calls.quiet_of_same (HW.out _)))
    go_wp2_with fail
    go_ret
    exact ⟨y, rfl, hr1, hr2, HN.out _ _, HT.out _ _⟩
end Go.Proofs.Ytenlfapdmknkjaa
