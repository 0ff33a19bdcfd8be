/- Lists of segments put together: their cells. No condition. -/
import Derived.Test.YtenlfapdmknkjaaSegUse2
import Derived.Test.YtenlfapdmknkjaaAppend
namespace Go.Proofs.Ytenlfapdmknkjaa
open Go.RowKit

/-- The cells of some segments. -/
def SegCells (w : World) (us : List Value) (L : List Seg) : Prop := us.length = L.length * 2 ∧ ∀ (i : Nat) (s : Seg), L[i]? = some s → us[i * 2]? = some (strV s.tag) ∧ s.tag.length ≤ maxLen ∧ ∃ u, us[i * 2 + 1]? = some u ∧ ElemsIn (Has_ w) w u s.els
theorem SegsIn.row {w : World} {v : Value} {L : List Seg} (h : SegsIn (Has_ w) w v L) : ∃ us, CellsIn (Has_ w) w 2 v L.length us ∧ SegCells w us L := by
  obtain ⟨us, h1, h2⟩ := h
  exact ⟨us, h1, h1.1, h2⟩
theorem SegCells.segs {w : World} {base : Nat} {e : TypeId} {v : Value} {n : Nat} {us : List Value} {L : List Seg} (h : SegCells w us L) (hr : w.ownsRow base e 2 v n us) : SegsIn (Has_ w) w v L := by
  have hn : n = L.length := by have := h.1; have := hr.1; omega
  subst hn
  exact ⟨us, (CellsIn.own hr).keep fun b hb => ⟨hb.2.1, rfl⟩, h.2⟩
theorem SegCells.later {w w1 : World} {us : List Value} {L : List Seg} (h : SegCells w us L) (hb : Below w.heap.size w w1) : SegCells w1 us L :=
  ⟨h.1, fun i s hi => by
    obtain ⟨h1, h2, u, h3, h4⟩ := h.2 i s hi
    exact ⟨h1, h2, u, h3, h4.later hb⟩⟩
theorem SegCells.one {w : World} {us : List Value} {L : List Seg} (h : SegCells w us L) : ∀ u ∈ us, u.oneCell' = true := by
  intro u hu
  obtain ⟨j, hj⟩ := List.mem_iff_getElem?.1 hu
  have hlt := (List.getElem?_eq_some_iff.1 hj).1
  have hl := h.1
  have hi : j / 2 < L.length := by omega
  obtain ⟨h1, _, x, h3, h4⟩ := h.2 (j / 2) _ (List.getElem?_eq_getElem hi)
  rcases Nat.mod_two_eq_zero_or_one j with hm | hm
  · have e : j / 2 * 2 = j := by omega
    rw [e, hj] at h1
    rw [Option.some.inj h1]
    rfl
  · have e : j / 2 * 2 + 1 = j := by omega
    rw [e, hj] at h3
    obtain ⟨ao, cap, hs⟩ := h4.slice
    rw [Option.some.inj h3, hs]
    rfl
theorem SegCells.append {w : World} {us1 us2 : List Value} {L1 L2 : List Seg} (h1 : SegCells w us1 L1) (h2 : SegCells w us2 L2) : SegCells w (us1 ++ us2) (L1 ++ L2) := by
  have l1 := h1.1
  have l2 := h2.1
  refine ⟨by rw [List.length_append, List.length_append]; omega, fun i s hi => ?_⟩
  by_cases hlt : i < L1.length
  · rw [List.getElem?_append_left hlt] at hi
    obtain ⟨a1, a2, u, a3, a4⟩ := h1.2 i s hi
    exact ⟨by rw [List.getElem?_append_left (by omega)]; exact a1, a2, u, by rw [List.getElem?_append_left (by omega)]; exact a3, a4⟩
  · rw [List.getElem?_append_right (by omega)] at hi
    obtain ⟨a1, a2, u, a3, a4⟩ := h2.2 _ s hi
    refine ⟨?_, a2, u, ?_, a4⟩
    · rw [List.getElem?_append_right (by omega), ← a1]
      congr 1
      omega
    · rw [List.getElem?_append_right (by omega), ← a3]
      congr 1
      omega
theorem SegCells.single {w : World} {s : Seg} {x : Value} (hx : ElemsIn (Has_ w) w x s.els) (hs : s.tag.length ≤ maxLen) : SegCells w [strV s.tag, x] [s] :=
  ⟨rfl, fun i s1 hi => by
    have hlt := (List.getElem?_eq_some_iff.1 hi).1
    have h1 : ([s] : List Seg).length = 1 := rfl
    obtain rfl : i = 0 := by omega
    simp at hi
    subst hi
    exact ⟨rfl, hs, x, rfl, hx⟩⟩
theorem SegCells.take {w : World} {us : List Value} {L : List Seg} (h : SegCells w us L) (k : Nat) (hk : k ≤ L.length) : SegCells w (us.take (k * 2)) (L.take k) := by
  have l1 := h.1
  refine ⟨by rw [List.length_take, List.length_take]; omega, fun i s hi => ?_⟩
  rw [List.getElem?_take] at hi
  split at hi
  · rename_i hlt
    obtain ⟨a1, a2, u, a3, a4⟩ := h.2 i s hi
    exact ⟨by rw [List.getElem?_take, if_pos (by omega)]; exact a1, a2, u, by rw [List.getElem?_take, if_pos (by omega)]; exact a3, a4⟩
  · cases hi
theorem SegCells.drop {w : World} {us : List Value} {L : List Seg} (h : SegCells w us L) (k : Nat) (hk : k ≤ L.length) : SegCells w (us.drop (k * 2)) (L.drop k) := by
  have l1 := h.1
  refine ⟨by rw [List.length_drop, List.length_drop]; omega, fun i s hi => ?_⟩
  rw [List.getElem?_drop] at hi
  obtain ⟨a1, a2, u, a3, a4⟩ := h.2 _ s hi
  refine ⟨?_, a2, u, ?_, a4⟩
  · rw [List.getElem?_drop, ← a1]
    congr 1
    omega
  · rw [List.getElem?_drop, ← a3]
    congr 1
    omega
/-- The cells of a list that came in, and of its first and its last elements. -/
theorem cells_of {w : World} {ao : Option Addr} {n cap : Nat} {us : List Value} (h : CellsIn (Has_ w) w 2 (.slice ao n cap) n us) : ∀ ad, ao = some ad → ∀ j u, us[j]? = some u → w.cell? (ad.add j) = some u := by
  intro ad had j u hj
  obtain ⟨_, ⟨h1, _⟩ | ⟨a, cap2, h2, _, _, _, h5⟩⟩ := h
  · injection h1 with e1
    rw [e1] at had
    cases had
  · injection h2 with e1
    rw [e1] at had
    injection had with had
    subst had
    exact h5 j u hj
theorem cells_take {w : World} {ao : Option Addr} {n cap : Nat} {us : List Value} (h : CellsIn (Has_ w) w 2 (.slice ao n cap) n us) (k : Nat) : ∀ ad, ao = some ad → ∀ j u, (us.take (k * 2))[j]? = some u → w.cell? (ad.add j) = some u := by
  intro ad had j u hj
  rw [List.getElem?_take] at hj
  split at hj
  · exact cells_of h ad had j u hj
  · cases hj
theorem cells_drop {w : World} {a : Addr} {n cap : Nat} {us : List Value} (h : CellsIn (Has_ w) w 2 (.slice (some a) n cap) n us) (k : Nat) : ∀ ad, some (a.add (k * 2)) = some ad → ∀ j u, (us.drop (k * 2))[j]? = some u → w.cell? (ad.add j) = some u := by
  intro ad had j u hj
  injection had with had
  subst had
  rw [List.getElem?_drop] at hj
  rw [Addr.add_add]
  exact cells_of h a rfl _ u hj
end Go.Proofs.Ytenlfapdmknkjaa
