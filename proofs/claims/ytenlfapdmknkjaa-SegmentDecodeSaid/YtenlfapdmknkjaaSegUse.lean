/- Segments and bytes in memory, as laws use them: that they stay, are read as texts, and are laid by literals. No condition. -/
import Derived.Test.YtenlfapdmknkjaaSegReadAt
namespace Go.Proofs.Ytenlfapdmknkjaa
open Go.RowKit

theorem SegsIn.later {w w1 : World} {v : Value} {L : List Seg} (h : SegsIn (Has_ w) w v L) (hb : Below w.heap.size w w1) : SegsIn (Has_ w1) w1 v L := h.keep (has_keep hb)
theorem ElemsIn.later {w w1 : World} {v : Value} {E : List (List (List UInt8))} (h : ElemsIn (Has_ w) w v E) (hb : Below w.heap.size w w1) : ElemsIn (Has_ w1) w1 v E := h.keep (has_keep hb)
theorem BytesIn.later {w w1 : World} {v : Value} {b : List UInt8} (h : BytesIn (Has_ w) w v b) (hb : Below w.heap.size w w1) : BytesIn (Has_ w1) w1 v b := CellsIn.keep h (has_keep hb)
theorem ByteRow.bytes {w : World} {base : Nat} {e : TypeId} {v : Value} {l : List UInt8} (h : ByteRow w base e v l) : BytesIn (Has_ w) w v l := h.cells.keep fun _ hb => ⟨hb.2.1, rfl⟩
/-- Bytes read as a text. -/
theorem BytesIn.text {p : Nat → Prop} {w : World} {v : Value} {b : List UInt8} (h : BytesIn p w v b) : (convert 32 9 v).run Try.prog w = .ok (.string ⟨b.toArray⟩) w :=
  run_text_of_cells (P := Try.prog) w 32 9 5 _ _ Try.underlying32 Try.underlying5 Try.underlying9 h
theorem BytesIn.slice {p : Nat → Prop} {w : World} {v : Value} {b : List UInt8} (h : BytesIn p w v b) : ∃ ao cap, v = .slice ao b.length cap ∧ b.length ≤ cap ∧ cap ≤ maxLen := by
  obtain ⟨_, ⟨h1, h2⟩ | ⟨a, cap, h1, h2, h3, _⟩⟩ := h
  · exact ⟨none, 0, by rw [h1, h2], by omega, Nat.zero_le _⟩
  · exact ⟨some a, cap, h1, h2, h3⟩
theorem SegsIn.slice {p : Nat → Prop} {w : World} {v : Value} {L : List Seg} (h : SegsIn p w v L) : ∃ ao cap, v = .slice ao L.length cap ∧ L.length ≤ cap ∧ cap ≤ maxLen := by
  obtain ⟨us, ⟨_, ⟨h1, h2⟩ | ⟨a, cap, h1, h2, h3, _⟩⟩, _⟩ := h
  · exact ⟨none, 0, by rw [h1, h2], by omega, Nat.zero_le _⟩
  · exact ⟨some a, cap, h1, h2, h3⟩
theorem ElemsIn.slice {p : Nat → Prop} {w : World} {v : Value} {E : List (List (List UInt8))} (h : ElemsIn p w v E) : ∃ ao cap, v = .slice ao E.length cap := by
  obtain ⟨us, ⟨_, ⟨h1, h2⟩ | ⟨a, cap, h1, _⟩⟩, _⟩ := h
  · exact ⟨none, 0, by rw [h1, h2]⟩
  · exact ⟨some a, cap, h1⟩
/-- The cells of a whole block. -/
theorem cells_lit {w : World} {B : Nat} {cs : List Value} {t : TypeId} {fz : Nat × Nat} (h : w.heap[B]? = some (.cells cs.toArray t fz)) (n size : Nat) (hs : cs.length = n * size) (hn : n ≤ maxLen) : CellsIn (Has_ w) w size (.slice (some ⟨B, 0, none⟩) n n) n cs := by
  refine ⟨hs, .inr ⟨_, n, rfl, Nat.le_refl _, hn, fun _ => (Array.getElem?_eq_some_iff.1 h).1, fun j u hj => ?_⟩⟩
  rw [Addr.add_lit, Nat.zero_add]
  simp [World.cell?, h, hj]
theorem strs_lit {w : World} {B : Nat} {l : List (List UInt8)} {t : TypeId} {fz : Nat × Nat} (h : w.heap[B]? = some (.cells (l.map strV).toArray t fz)) (hn : l.length ≤ maxLen) (hs : ∀ x ∈ l, x.length ≤ maxLen) : StrsIn (Has_ w) w (.slice (some ⟨B, 0, none⟩) l.length l.length) l :=
  ⟨cells_lit h l.length 1 (by simp) hn, hs⟩
theorem strs_nil (w : World) : StrsIn (Has_ w) w (.slice none 0 0) [] := ⟨⟨rfl, .inl ⟨rfl, rfl⟩⟩, fun x hx => absurd hx (by simp)⟩
/-- One segment, laid into a block of its own. -/
theorem segs_one {w : World} {B : Nat} {s : Seg} {x : Value} {t : TypeId} {fz : Nat × Nat} (h : w.heap[B]? = some (.cells #[strV s.tag, x] t fz)) (hx : ElemsIn (Has_ w) w x s.els) (hs : s.tag.length ≤ maxLen) : SegsIn (Has_ w) w (.slice (some ⟨B, 0, none⟩) 1 1) [s] := by
  refine ⟨[strV s.tag, x], cells_lit (cs := [strV s.tag, x]) h 1 2 rfl (by unfold maxLen; omega), fun i s1 hi => ?_⟩
  have hlt := (List.getElem?_eq_some_iff.1 hi).1
  have h1 : ([s] : List Seg).length = 1 := rfl
  obtain rfl : i = 0 := by omega
  simp at hi
  subst hi
  exact ⟨rfl, hs, x, rfl, hx⟩
/-- The first n of some segments. -/
theorem SegsIn.take {p : Nat → Prop} {w : World} {ao : Option Addr} {len cap : Nat} {L : List Seg} (h : SegsIn p w (.slice ao len cap) L) (n : Nat) (hn : n ≤ L.length) : SegsIn p w (.slice ao n cap) (L.take n) := by
  obtain ⟨us, ⟨h0, h1⟩, h2⟩ := h
  have hl : (L.take n).length = n := by rw [List.length_take]; omega
  refine ⟨us.take (n * 2), ⟨by rw [List.length_take, h0, hl]; omega, ?_⟩, fun i s hi => ?_⟩
  · rcases h1 with ⟨h3, h4⟩ | ⟨a, cap2, h3, h4, h5, h6, h7⟩
    · injection h3 with e1 e2 e3
      subst e1 e3
      exact .inl ⟨by rw [show n = 0 by omega], by omega⟩
    · injection h3 with e1 e2 e3
      subst e1 e3
      refine .inr ⟨a, cap, by rw [hl], by omega, h5, fun h8 => h6 (by omega), fun j u hj => h7 j u ?_⟩
      rw [List.getElem?_take] at hj
      split at hj
      · exact hj
      · cases hj
  · rw [List.getElem?_take] at hi
    split at hi
    · rename_i hlt
      obtain ⟨h3, h4, u, h5, h6⟩ := h2 i s hi
      refine ⟨by rw [List.getElem?_take, if_pos (by omega)]; exact h3, h4, u, by rw [List.getElem?_take, if_pos (by omega)]; exact h5, h6⟩
    · cases hi
end Go.Proofs.Ytenlfapdmknkjaa
