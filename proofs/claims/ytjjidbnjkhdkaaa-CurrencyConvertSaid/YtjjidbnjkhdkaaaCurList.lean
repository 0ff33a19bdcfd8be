/- Tables of rates as lists: their cells, and when they are valid. No program is walked in this text. No condition. -/
import Derived.Test.YtjjidbnjkhdkaaaCurCross
namespace Go.Proofs.Ytjjidbnjkhdkaaa
open Go.RowKit

/-- A rate of exchange. -/
structure Exch where
  s : ByteArray
  f : Int
  r : Int
def noExch : Exch := ⟨⟨#[]⟩, 0, 0⟩
def cellsX : List Exch → List Value
  | [] => []
  | e :: L => .string e.s :: .int .i64 e.f :: .int .i64 e.r :: cellsX L
theorem cellsX_length : ∀ L : List Exch, (cellsX L).length = L.length * 3
  | [] => rfl
  | e :: L => by
    show (cellsX L).length + 1 + 1 + 1 = (L.length + 1) * 3
    rw [cellsX_length L]; omega
theorem cellsX_snoc : ∀ (L : List Exch) (e : Exch), cellsX (L ++ [e]) = cellsX L ++ [.string e.s, .int .i64 e.f, .int .i64 e.r]
  | [], _ => rfl
  | x :: L, e => by
    show _ :: _ :: _ :: cellsX (L ++ [e]) = _ :: _ :: _ :: (cellsX L ++ _)
    rw [cellsX_snoc L e]
theorem cellsX_at : ∀ (L : List Exch) (i : Nat), i < L.length → (cellsX L)[i * 3]? = some (.string (L.getD i noExch).s) ∧ (cellsX L)[i * 3 + 1]? = some (.int .i64 (L.getD i noExch).f) ∧ (cellsX L)[i * 3 + 2]? = some (.int .i64 (L.getD i noExch).r)
  | [], i, h => absurd h (by simp)
  | e :: L, 0, _ => ⟨rfl, rfl, rfl⟩
  | e :: L, i + 1, h => by
    have ih := cellsX_at L i (by simpa using h)
    rw [show (i + 1) * 3 = i * 3 + 3 by omega]
    exact ih
def sX (L : List Exch) (i : Nat) : ByteArray := (L.getD i noExch).s
def fX (L : List Exch) (i : Nat) : Int := (L.getD i noExch).f
def rX (L : List Exch) (i : Nat) : Int := (L.getD i noExch).r
theorem snoc_old (L : List Exch) (e : Exch) (i : Nat) (hi : i < L.length) : (L ++ [e]).getD i noExch = L.getD i noExch := by
  rw [List.getD, List.getD, List.getElem?_append_left hi]
theorem snoc_new (L : List Exch) (e : Exch) : (L ++ [e]).getD L.length noExch = e := by
  rw [List.getD, List.getElem?_append_right (Nat.le_refl _)]
  simp
/-- Is every element of the list without an error? -/
def GoodX (L : List Exch) : Prop := ∀ i, i < L.length → rowE (sX L) (fX L) (rX L) i = 0
theorem tabF_zero {S : Nat → ByteArray} {F R : Nat → Int} : ∀ {n : Nat}, (∀ i, i < n → rowE S F R i = 0) → tabF S F R n = 0
  | 0, _ => rfl
  | n + 1, h => by
    show (if tabF S F R n = 0 then rowE S F R n else tabF S F R n) = 0
    rw [if_pos (tabF_zero (fun i hi => h i (by omega)))]
    exact h n (by omega)
theorem GoodX.tab {L : List Exch} (h : GoodX L) (hl : L.length ≤ 1000) : tabE (sX L) (fX L) (rX L) L.length = 0 := by
  unfold tabE
  rw [if_neg (by omega)]
  exact tabF_zero h
theorem GoodX.nil : GoodX [] := fun i hi => absurd hi (by simp)
/-- May an element follow the list? -/
def FollowsX (L : List Exch) (e : Exch) : Prop := L = [] ∨ (Op.bytesLess e.s.toList (sX L (L.length - 1)).toList = false ∧ ((e.s.toList == (sX L (L.length - 1)).toList) = true → fX L (L.length - 1) < e.f))
theorem GoodX.snoc {L : List Exch} {e : Exch} (h : GoodX L) (h1 : curB e.s = true) (h2 : dayB e.f = true) (h3 : 1 ≤ e.r ∧ e.r ≤ 1000000000) (h4 : FollowsX L e) : GoodX (L ++ [e]) := by
  intro i hi
  have hlen : (L ++ [e]).length = L.length + 1 := by simp
  rw [hlen] at hi
  by_cases hl : i < L.length
  · have old : ∀ k, k < L.length → sX (L ++ [e]) k = sX L k ∧ fX (L ++ [e]) k = fX L k ∧ rX (L ++ [e]) k = rX L k := fun k hk => by
      unfold sX fX rX
      rw [snoc_old L e k hk]
      exact ⟨rfl, rfl, rfl⟩
    have ho := h i hl
    unfold rowE at ho ⊢
    rw [(old i hl).1, (old i hl).2.1, (old i hl).2.2]
    by_cases h0 : 0 < i
    · rw [(old (i - 1) (by omega)).1, (old (i - 1) (by omega)).2.1]
      exact ho
    · obtain rfl : i = 0 := by omega
      have hz : ∀ p : Prop, ¬ (0 < 0 ∧ p) := fun p hp => absurd hp.1 (by omega)
      rw [if_neg (hz _)] at ho ⊢
      exact ho
  · obtain rfl : i = L.length := by omega
    have e1 : sX (L ++ [e]) L.length = e.s := by unfold sX; rw [snoc_new]
    have e2 : fX (L ++ [e]) L.length = e.f := by unfold fX; rw [snoc_new]
    have e3 : rX (L ++ [e]) L.length = e.r := by unfold rX; rw [snoc_new]
    unfold rowE
    rw [e1, e2, e3, if_neg (by rw [h1]; simp), if_neg (fun hc => by
      rw [h2] at hc
      rcases hc with hc | hc | hc
      · cases hc
      · omega
      · omega)]
    refine if_neg (fun hc => ?_)
    obtain ⟨hpos, hc⟩ := hc
    have o1 : sX (L ++ [e]) (L.length - 1) = sX L (L.length - 1) := by unfold sX; rw [snoc_old L e _ (by omega)]
    have o2 : fX (L ++ [e]) (L.length - 1) = fX L (L.length - 1) := by unfold fX; rw [snoc_old L e _ (by omega)]
    rw [o1, o2] at hc
    rcases h4 with h4 | ⟨h4, h5⟩
    · rw [h4] at hpos; simp at hpos
    · rcases hc with hc | ⟨hc, hd⟩
      · rw [h4] at hc; cases hc
      · have := h5 hc
        omega
end Go.Proofs.Ytjjidbnjkhdkaaa
