/- Lists of segments in memory. No condition. -/
import Derived.Test.YtenlfapdmknkjaaSegSpec
import Derived.Test.YtenlfapdmknkjaaMem
namespace Go.Proofs.Ytenlfapdmknkjaa
open Go.RowKit

/-- A list of segments: two cells each. -/
def SegsIn (p : Nat → Prop) (w : World) (v : Value) (L : List Seg) : Prop := ∃ us : List Value, CellsIn p w 2 v L.length us ∧ ∀ (i : Nat) (s : Seg), L[i]? = some s → us[i * 2]? = some (strV s.tag) ∧ s.tag.length ≤ maxLen ∧ ∃ u, us[i * 2 + 1]? = some u ∧ ElemsIn p w u s.els
theorem SegsIn.keep {p q : Nat → Prop} {w w1 : World} {v : Value} {L : List Seg} (h : SegsIn p w v L) (hk : ∀ b, p b → q b ∧ w1.heap[b]? = w.heap[b]?) : SegsIn q w1 v L := by
  obtain ⟨us, h1, h2⟩ := h
  exact ⟨us, h1.keep hk, fun i s hi => by
    obtain ⟨h3, h4, u, h5, h6⟩ := h2 i s hi
    exact ⟨h3, h4, u, h5, h6.keep hk⟩⟩
theorem SegsIn.form {p : Nat → Prop} {w : World} {v : Value} {L : List Seg} (h : SegsIn p w v L) : ∃ (ao : Option Addr) (cap : Nat), v = .slice ao L.length cap ∧ L.length ≤ maxLen ∧
    ∀ (k : Nat) (s : Seg), L[k]? = some s → ∃ a u, ao = some a ∧ w.cell? (a.add (k * 2)) = some (strV s.tag) ∧ w.cell? ⟨(a.add (k * 2)).block, (a.add (k * 2)).off + 1, none⟩ = some u ∧ ElemsIn p w u s.els ∧ s.tag.length ≤ maxLen := by
  obtain ⟨us, ⟨h1, h2 | ⟨a, cap, h2, h3, h4, h5, h6⟩⟩, h7⟩ := h
  · refine ⟨none, 0, by rw [h2.1, h2.2], by rw [h2.2]; exact Nat.zero_le _, fun k x hk => ?_⟩
    have := (List.getElem?_eq_some_iff.1 hk).1
    omega
  · refine ⟨some a, cap, h2, Nat.le_trans h3 h4, fun k s hk => ?_⟩
    obtain ⟨h8, h9, u, h10, h11⟩ := h7 k s hk
    exact ⟨a, u, rfl, h6 _ _ h8, (show w.cell? ((a.add (k * 2)).add 1) = some u by rw [Addr.add_add]; exact h6 _ _ h10), h11, h9⟩
end Go.Proofs.Ytenlfapdmknkjaa
