/- What Table of the made inputs returns: a table without an error, in a block of its own. Condition: the list's cells are known. -/
import Derived.Test.YtjjidbnjkhdkaaaCurList
import Derived.Test.YtjjidbnjkhdkaaaSource
import Derived.Test.YtjjidbnjkhdkaaaCut
import Derived.Test.YtjjidbnjkhdkaaaAppend
import Derived.Deep.RegionHeld3
import Derived.Deep.DeepCutAuto
import Derived.Deep.CutBlock
namespace Go.Proofs.Ytjjidbnjkhdkaaa
open Go.RowKit

/-- The currencies of made tables. -/
def cur3 (j : Nat) : ByteArray := if j = 0 then ⟨#[67, 72, 70]⟩ else if j = 1 then ⟨#[71, 66, 80]⟩ else ⟨#[85, 83, 68]⟩
theorem cur3_good (j : Nat) (h : j < 3) : curB (cur3 j) = true ∧ (cur3 j).size ≤ maxLen := by
  obtain rfl | rfl | rfl : j = 0 ∨ j = 1 ∨ j = 2 := by omega
  all_goals exact ⟨by decide +kernel, by decide +kernel⟩
theorem cur3_order (i j : Nat) (hi : i < 3) (h : j ≤ i) : Op.bytesLess (cur3 i).toList (cur3 j).toList = false ∧ (j < i → ((cur3 i).toList == (cur3 j).toList) = false) := by
  obtain ⟨rfl, rfl⟩ | ⟨rfl, rfl⟩ | ⟨rfl, rfl⟩ | ⟨rfl, rfl⟩ | ⟨rfl, rfl⟩ | ⟨rfl, rfl⟩ : (i = 0 ∧ j = 0) ∨ (i = 1 ∧ j = 0) ∨ (i = 1 ∧ j = 1) ∨ (i = 2 ∧ j = 0) ∨ (i = 2 ∧ j = 1) ∨ (i = 2 ∧ j = 2) := by omega
  all_goals exact ⟨by decide +kernel, fun h => by first | omega | decide +kernel⟩
/-- What stands last in the list while the elements of currency i are made, the next one from day d. -/
def LastX (L : List Exch) (i : Nat) (d : Int) : Prop := L = [] ∨ ∃ j, (j ≤ i ∧ fX L (L.length - 1) < 1000) ∧ sX L (L.length - 1) = cur3 j ∧ (j = i → fX L (L.length - 1) < d)
theorem LastX.follows {L : List Exch} {i : Nat} {d r : Int} (h : LastX L i d) (hi : i < 3) : FollowsX L ⟨cur3 i, d, r⟩ := by
  rcases h with h | ⟨j, ⟨h1, _⟩, h2, h3⟩
  · exact .inl h
  · obtain ⟨o1, o2⟩ := cur3_order i j hi h1
    refine .inr ⟨by rw [h2]; exact o1, fun he => ?_⟩
    by_cases e : j = i
    · exact h3 e
    · rw [h2] at he
      have := o2 (by omega)
      rw [this] at he
      cases he
theorem LastX.snoc (L : List Exch) (i : Nat) (d r d2 : Int) (hd : d < d2) (hlow : d < 1000) : LastX (L ++ [⟨cur3 i, d, r⟩]) i d2 := by
  refine .inr ⟨i, ⟨Nat.le_refl _, ?_⟩, ?_, fun _ => ?_⟩
  · have : (L ++ [(⟨cur3 i, d, r⟩ : Exch)]).length - 1 = L.length := by simp
    rw [this]
    unfold fX
    rw [snoc_new]
    exact hlow
  · have : (L ++ [(⟨cur3 i, d, r⟩ : Exch)]).length - 1 = L.length := by simp
    rw [this]
    unfold sX
    rw [snoc_new]
  · have : (L ++ [(⟨cur3 i, d, r⟩ : Exch)]).length - 1 = L.length := by simp
    rw [this]
    unfold fX
    rw [snoc_new]
    exact hd
theorem LastX.next {L : List Exch} {i : Nat} {d : Int} (h : LastX L i d) (d2 : Int) : LastX L (i + 1) d2 := by
  rcases h with h | ⟨j, ⟨h1, h3⟩, h2, _⟩
  · exact .inl h
  · exact .inr ⟨j, ⟨by omega, h3⟩, h2, fun e => by omega⟩
/-- A rate of the last currency on a late day may follow. -/
theorem LastX.late {L : List Exch} {i : Nat} {d from' r : Int} (h : LastX L i d) (hd : 1000 ≤ from') : FollowsX L ⟨cur3 2, from', r⟩ := by
  rcases h with h | ⟨j, ⟨_, h3⟩, h2, _⟩
  · exact .inl h
  · refine .inr ⟨?_, fun _ => by show _ < from'; omega⟩
    rw [h2]
    by_cases hj : j ≤ 2
    · exact (cur3_order 2 j (by omega) hj).1
    · have e : cur3 j = cur3 2 := by
        unfold cur3
        rw [if_neg (by omega), if_neg (by omega)]
        rfl
      rw [e]
      exact (cur3_order 2 2 (by omega) (by omega)).1

/-- The making of a table: the source, the currencies, the rows so far. -/
structure MadeAt (W0 w : World) (SB CB : Nat) (u : Value) (L : List Exch) : Prop where
  src : SourceAt W0 w SB
  cur : ∀ j, j < 3 → w.cell? ⟨CB, j, none⟩ = some (.string (cur3 j))
  row : w.ownsRow (CB + 1) 25 3 u L.length (cellsX L)
  le : SB < CB
  lt : CB < w.heap.size
theorem MadeAt.next {W0 w w1 : World} {SB CB : Nat} {u : Value} {L : List Exch} (h : MadeAt W0 w SB CB u L) (hs : SourceAt W0 w1 SB) (hn : NextTo w w1 SB) : MadeAt W0 w1 SB CB u L := by
  refine ⟨hs, fun j hj => (hn.cell (by have := h.le; omega)).1.trans (h.cur j hj), ?_, h.le, by rw [hn.size]; exact h.lt⟩
  obtain ⟨r1, r2⟩ := h.row
  refine ⟨r1, ?_⟩
  rcases r2 with r2 | ⟨g, cap, cur, r3, r4, r5, r6⟩
  · exact .inl r2
  · exact .inr ⟨g, cap, cur, r3, r4, (hn.heap (by have := h.le; omega)).trans r5, r6⟩
theorem MadeAt.drewN {W0 w : World} {SB CB : Nat} {u : Value} {L : List Exch} (h : MadeAt W0 w SB CB u L) (q : Nat) : MadeAt W0 (w.drewN q) SB CB u L :=
  h.next (h.src.keep (below_drewN (Below.refl _ _) _)) (.inl ⟨q, rfl⟩)
/-- Behind an append. -/
theorem MadeAt.grown {W0 w w1 : World} {SB CB : Nat} {u u1 : Value} {L L1 : List Exch} (h : MadeAt W0 w SB CB u L) (hg : w.grownBy w1 u.ownBlock) (hr : w1.ownsRow (CB + 1) 25 3 u1 L1.length (cellsX L1)) : MadeAt W0 w1 SB CB u1 L1 := by
  have hrow : ∀ k, u.ownBlock = some k → CB + 1 ≤ k := fun k hk => (h.row.lt k hk).1
  have hle := h.le
  have hlt := h.lt
  have hcell : ∀ b o v, b ≤ CB → w.cell? ⟨b, o, none⟩ = some v → w1.cell? ⟨b, o, none⟩ = some v := fun b o v hb hc => hg.cell hc (fun e => by have := hrow b e.symm; omega)
  obtain ⟨s1, s2, v, m, f, k, a1, a2, a3, a4, a5, a6⟩ := h.src
  have hfr : w1.frozen? ⟨SB, 1, none⟩ = false := (World.frozen?_of_block (hg.block SB (by omega) (fun e => by have := hrow SB e.symm; omega))).trans a6
  refine ⟨⟨s1, s2.grown hg (Nat.le_trans s1 (by omega)) (fun k hk => by have := hrow k hk; omega), v, m, f, k, a1, a2, a3, hcell _ _ _ (by omega) a4, hcell _ _ _ (by omega) a5, hfr⟩, fun j hj => hcell _ _ _ (Nat.le_refl _) (h.cur j hj), hr, hle, Nat.lt_of_lt_of_le hlt hg.size⟩

theorem currencies_any (w : World) : Calls Try.prog 23 #[] w fun e w' => e = .returned (.slice (some ⟨w.heap.size, 0, none⟩) 3 3) ∧ w' = w.alloc (.cells #[.string ⟨#[67, 72, 70]⟩, .string ⟨#[71, 66, 80]⟩, .string ⟨#[85, 83, 68]⟩] 9) := by
  go_enter Try.func23, Try.ntmps23
  go_wp2_with fail
  go_ret
  exact ⟨rfl, rfl⟩
theorem info_exch : (Try.prog.info? 25).map (fun i => (i.zero, i.size, i.bytes)) = some (some (.agg #[.string ⟨#[]⟩, .int .i64 0, .int .i64 0]), 3, 32) := by kernel_rfl
theorem made_start (v : Value) (m : Nat) (f : Nat → Int) (hm : m ≤ 1000000) (w : World) (h : ListAt w .i64 v m f) :
    MadeAt w ((w.alloc (.cells #[v, .int .i64 0] 49)).alloc (.cells #[.string ⟨#[67, 72, 70]⟩, .string ⟨#[71, 66, 80]⟩, .string ⟨#[85, 83, 68]⟩] 9)) w.heap.size (w.heap.size + 1) (.slice none 0 0) [] := by
  have s1 : (w.alloc (.cells #[v, .int .i64 0] 49)).heap.size = w.heap.size + 1 := by simp
  have c0 : (w.alloc (.cells #[v, .int .i64 0] 49)).cell? ⟨w.heap.size, 0, none⟩ = some v := by simp
  have c1 : (w.alloc (.cells #[v, .int .i64 0] 49)).cell? ⟨w.heap.size, 1, none⟩ = some (.int .i64 0) := by simp
  have f1 : (w.alloc (.cells #[v, .int .i64 0] 49)).frozen? ⟨w.heap.size, 1, none⟩ = false := by simp
  have b1 : Below w.heap.size w (w.alloc (.cells #[v, .int .i64 0] 49)) := (Below.refl _ _).alloc (Nat.le_refl _) _
  have q1 : SourceAt w (w.alloc (.cells #[v, .int .i64 0] 49)) w.heap.size := ⟨Nat.le_refl _, b1, v, m, f, 0, h, hm, Nat.zero_le _, c0, c1, f1⟩
  generalize w.alloc (.cells #[v, .int .i64 0] 49) = w1 at *
  have b2 : Below w1.heap.size w1 (w1.alloc (.cells #[.string ⟨#[67, 72, 70]⟩, .string ⟨#[71, 66, 80]⟩, .string ⟨#[85, 83, 68]⟩] 9)) := (Below.refl _ _).alloc (Nat.le_refl _) _
  refine ⟨q1.keep b2, fun j hj => ?_, ⟨rfl, .inl ⟨rfl, rfl⟩⟩, by omega, by simp; omega⟩
  rw [← s1]
  obtain rfl | rfl | rfl : j = 0 ∨ j = 1 ∨ j = 2 := by omega
  all_goals (simp; rfl)
end Go.Proofs.Ytjjidbnjkhdkaaa
