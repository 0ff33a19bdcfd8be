/- Bytes of a row of the call's own, written over; the first bytes of some. No condition. -/
import Derived.Test.YtenlfapdmknkjaaSegUse2
namespace Go.Proofs.Ytenlfapdmknkjaa
open Go.RowKit

theorem ByteRow.base {w : World} {base b2 : Nat} {e : TypeId} {v : Value} {l : List UInt8} (h : ByteRow w base e v l) (hb : b2 ≤ base) : ByteRow w b2 e v l := by
  rcases h with h | ⟨g, cap, cur, fz, h1, h2, h3⟩
  · exact .inl h
  · exact .inr ⟨g, cap, cur, fz, h1, Nat.le_trans hb h2, h3⟩
/-- One byte written over. -/
theorem ByteRow.put {w : World} {base : Nat} {e : TypeId} {v : Value} {l : List UInt8} (h : ByteRow w base e v l) (hl : 0 < l.length) : ∃ (g cap : Nat), v = .slice (some ⟨g, 0, none⟩) l.length cap ∧ base ≤ g ∧
    ∀ k, k < l.length → (∃ x, w.cell? ⟨g, k, none⟩ = some x) ∧ w.frozen? ⟨g, k, none⟩ = false ∧ ∀ c : UInt8, ByteRow (w.setCell ⟨g, k, none⟩ (byteV c)) base e v (l.set k c) := by
  rcases h with ⟨_, h1⟩ | ⟨g, cap, cur, fz, h1, h2, h3, h4, h5, h6, h7, h8⟩
  · rw [h1] at hl
    exact absurd hl (by simp)
  · refine ⟨g, cap, h1, h2, fun k hk => ⟨⟨cur[k]'(by omega), ?_⟩, ?_, fun c => ?_⟩⟩
    · simp [World.cell?, h3, show k < cur.size by omega]
    · have := h4 k (by omega)
      simp only [World.frozen?, h3, Bool.and_eq_false_iff, decide_eq_false_iff_not]
      omega
    · refine .inr ⟨g, cap, cur.setIfInBounds k (byteV c), fz, by rw [List.length_set]; exact h1, h2, ?_, by simpa using h4, by rw [List.length_set]; exact h5, h6, by simpa using h7, ?_⟩
      · rw [setCell_eq_setRow w g k cur e fz _ h3]
        exact setRow_heap w _ _ _ _ _ h3
      · rw [List.length_set, Array.toList_setIfInBounds, List.map_set, ← h8, List.take_set]
/-- The first n of some bytes. -/
theorem BytesIn.firsts {p : Nat → Prop} {w : World} {ao : Option Addr} {len cap n : Nat} {b : List UInt8} (h : BytesIn p w (.slice ao len cap) b) (hn : n ≤ b.length) : BytesIn p w (.slice ao n cap) (b.take n) := by
  have hl : (b.take n).length = n := by rw [List.length_take]; omega
  obtain ⟨_, ⟨h1, h2⟩ | ⟨a, cap2, h2, h3, h4, h5, h6⟩⟩ := h
  · injection h1 with e1 e2 e3
    subst e1 e3
    refine ⟨by simp, .inl ⟨by rw [show n = 0 by omega], by rw [hl]; omega⟩⟩
  · injection h2 with e1 e2 e3
    subst e1 e3
    refine ⟨by simp, .inr ⟨a, cap, by rw [hl], by rw [hl]; omega, h4, fun h0 => h5 (by omega), fun j u hj => h6 j u ?_⟩⟩
    rw [List.getElem?_map, List.getElem?_take] at hj
    rw [List.getElem?_map]
    split at hj
    · exact hj
    · cases hj
end Go.Proofs.Ytenlfapdmknkjaa
