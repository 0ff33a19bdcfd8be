/- Rows of cells, lists of texts, lists of lists of texts in memory: when they read so, that they stay, and that a law's arguments are such. No condition. -/
import Derived.Test.YtenlfapdmknkjaaLawRow
import Derived.Test.YtenlfapdmknkjaaBase
import Derived.Deep.Strs
import Derived.Laws.OwnMore
namespace Go.Proofs.Ytenlfapdmknkjaa
open Go.RowKit Go.WideShapes Go.ChangeShapes Go.Deep

/-- A text as a value. -/
def strV (x : List UInt8) : Value := .string ⟨x.toArray⟩
theorem strV_of (s : ByteArray) : (.string s : Value) = strV s.data.toList := rfl
theorem add_block (a : Addr) (j : Nat) : (a.add j).block = a.block := by unfold Addr.add; split <;> rfl
/-- n elements of 'size' cells each: nil, or cells in a block that has p. -/
def CellsIn (p : Nat → Prop) (w : World) (size : Nat) (v : Value) (n : Nat) (xs : List Value) : Prop :=
  xs.length = n * size ∧ ((v = .slice none 0 0 ∧ n = 0) ∨ ∃ (a : Addr) (cap : Nat), v = .slice (some a) n cap ∧ n ≤ cap ∧ cap ≤ maxLen ∧ (0 < n → p a.block) ∧ ∀ j u, xs[j]? = some u → w.cell? (a.add j) = some u)
theorem CellsIn.keep {p q : Nat → Prop} {w w1 : World} {size : Nat} {v : Value} {n : Nat} {xs : List Value} (h : CellsIn p w size v n xs) (hk : ∀ b, p b → q b ∧ w1.heap[b]? = w.heap[b]?) : CellsIn q w1 size v n xs := by
  obtain ⟨h1, h2 | ⟨a, cap, h2, h3, h4, h5, h6⟩⟩ := h
  · exact ⟨h1, .inl h2⟩
  · refine ⟨h1, .inr ⟨a, cap, h2, h3, h4, fun hn => (hk _ (h5 hn)).1, fun j u hj => ?_⟩⟩
    have hn : 0 < n := by
      rcases Nat.eq_zero_or_pos n with hz | hz
      · subst hz
        have := (List.getElem?_eq_some_iff.1 hj).1
        omega
      · exact hz
    exact (World.cell?_of_block (a := a.add j) (by rw [add_block]; exact (hk _ (h5 hn)).2)).trans (h6 j u hj)
theorem CellsIn.own {w : World} {base : Nat} {e : TypeId} {size : Nat} {v : Value} {n : Nat} {xs : List Value} (h : w.ownsRow base e size v n xs) : CellsIn (fun b => base ≤ b ∧ b < w.heap.size ∧ v.ownBlock = some b) w size v n xs := by
  refine ⟨h.1, ?_⟩
  have h2 := h.2
  rcases h2 with h2 | ⟨g, cap, cur, rfl, hb, hg, h3, h4, h5, h6⟩
  · exact .inl h2
  · exact .inr ⟨_, cap, rfl, h3, h4, fun _ => ⟨hb, (Array.getElem?_eq_some_iff.1 hg).1, rfl⟩, fun j u hj => h.cells (g := g) rfl j u hj⟩
/-- The cells of a list that came in. -/
theorem CellsIn.at_ {p : Nat → Prop} {w : World} {size : Nat} {v : Value} {n : Nat} {xs : List Value} (h : CellsIn p w size v n xs) (hn : 0 < n) : ∃ (a : Addr) (cap : Nat), v = .slice (some a) n cap ∧ n ≤ cap ∧ cap ≤ maxLen ∧ p a.block ∧ ∀ j u, xs[j]? = some u → w.cell? (a.add j) = some u := by
  obtain ⟨_, ⟨_, h2⟩ | h2⟩ := h
  · omega
  · obtain ⟨a, cap, h3, h4, h5, h6, h7⟩ := h2
    exact ⟨a, cap, h3, h4, h5, h6 hn, h7⟩

/-- A list of texts. -/
def StrsIn (p : Nat → Prop) (w : World) (v : Value) (l : List (List UInt8)) : Prop := CellsIn p w 1 v l.length (l.map strV) ∧ ∀ x ∈ l, x.length ≤ maxLen
theorem StrsIn.keep {p q : Nat → Prop} {w w1 : World} {v : Value} {l : List (List UInt8)} (h : StrsIn p w v l) (hk : ∀ b, p b → q b ∧ w1.heap[b]? = w.heap[b]?) : StrsIn q w1 v l := ⟨h.1.keep hk, h.2⟩
/-- A list of lists of texts. -/
def ElemsIn (p : Nat → Prop) (w : World) (v : Value) (E : List (List (List UInt8))) : Prop := ∃ us : List Value, CellsIn p w 1 v E.length us ∧ ∀ (i : Nat) (e : List (List UInt8)), E[i]? = some e → ∃ u, us[i]? = some u ∧ StrsIn p w u e
theorem ElemsIn.keep {p q : Nat → Prop} {w w1 : World} {v : Value} {E : List (List (List UInt8))} (h : ElemsIn p w v E) (hk : ∀ b, p b → q b ∧ w1.heap[b]? = w.heap[b]?) : ElemsIn q w1 v E := by
  obtain ⟨us, h1, h2⟩ := h
  exact ⟨us, h1.keep hk, fun i e hi => by
    obtain ⟨u, h3, h4⟩ := h2 i e hi
    exact ⟨u, h3, h4.keep hk⟩⟩
/-- A list of texts, as a walk reads it. -/
theorem StrsIn.form {p : Nat → Prop} {w : World} {v : Value} {l : List (List UInt8)} (h : StrsIn p w v l) : ∃ (ao : Option Addr) (cap : Nat), v = .slice ao l.length cap ∧ l.length ≤ maxLen ∧
    ∀ (k : Nat) (x : List UInt8), l[k]? = some x → ∃ a, ao = some a ∧ w.cell? (a.add k) = some (strV x) ∧ x.length ≤ maxLen := by
  obtain ⟨⟨h1, h2 | ⟨a, cap, h2, h3, h4, h5, h6⟩⟩, h7⟩ := h
  · refine ⟨none, 0, by rw [h2.1, h2.2], by rw [h2.2]; exact Nat.zero_le _, fun k x hk => ?_⟩
    have := (List.getElem?_eq_some_iff.1 hk).1
    omega
  · exact ⟨some a, cap, h2, Nat.le_trans h3 h4, fun k x hk => ⟨a, rfl, h6 k _ (by rw [List.getElem?_map, hk]; rfl), h7 x (List.mem_of_getElem? hk)⟩⟩
theorem ElemsIn.form {p : Nat → Prop} {w : World} {v : Value} {E : List (List (List UInt8))} (h : ElemsIn p w v E) : ∃ (ao : Option Addr) (cap : Nat), v = .slice ao E.length cap ∧ E.length ≤ maxLen ∧
    ∀ (k : Nat) (e : List (List UInt8)), E[k]? = some e → ∃ a u, ao = some a ∧ w.cell? (a.add k) = some u ∧ StrsIn p w u e := by
  obtain ⟨us, ⟨h1, h2 | ⟨a, cap, h2, h3, h4, h5, h6⟩⟩, h7⟩ := h
  · refine ⟨none, 0, by rw [h2.1, h2.2], by rw [h2.2]; exact Nat.zero_le _, fun k x hk => ?_⟩
    have := (List.getElem?_eq_some_iff.1 hk).1
    omega
  · refine ⟨some a, cap, h2, Nat.le_trans h3 h4, fun k e hk => ?_⟩
    obtain ⟨u, h8, h9⟩ := h7 k e hk
    exact ⟨a, u, rfl, h6 k u h8, h9⟩
/-- Blocks that a world has. -/
def Has_ (w : World) (b : Nat) : Prop := b < w.heap.size
theorem has_keep {w w1 : World} (hb : Below w.heap.size w w1) : ∀ b, Has_ w b → Has_ w1 b ∧ w1.heap[b]? = w.heap[b]? := fun b h => ⟨Nat.lt_of_lt_of_le h hb.size, hb.block b h⟩

theorem range_map {α : Type} (f : Nat → α) (len j : Nat) (u : α) (h : ((List.range len).map f)[j]? = some u) : j < len ∧ f j = u := by
  have h1 := (List.getElem?_eq_some_iff.1 h).1
  simp only [List.length_map, List.length_range] at h1
  rw [List.getElem?_map, List.getElem?_range h1] at h
  exact ⟨h1, Option.some.inj h⟩
section
variable {H : Type} {enc : TypeId × Value → H} {P : Program}
theorem open_strs {w : World} {sp : Nat → Bool} {held : Bool} {t e : TypeId} {fuel : Nat} {v : Value} {x : DataW H × List MemPlace} (ht : P.underlying t = some (.slice e)) (he : P.underlying e = some .string) (hc : P.cellsOf e = 1)
    (h : DataW.trod enc P w 0 sp held fuel t [v] = some x) : ∃ l : List (List UInt8), StrsIn (Has_ w) w v l := by
  rcases open_slice1 ht hc h with ⟨h1, _⟩ | ⟨a, len, cap, m, n, V, D, Pl, h1, _, h2, h3, h4, _, hx⟩
  · obtain rfl := List.head_eq_of_cons_eq h1
    exact ⟨[], ⟨⟨rfl, .inl ⟨rfl, rfl⟩⟩, fun x hx => absurd hx (by simp)⟩⟩
  · obtain rfl := List.head_eq_of_cons_eq h1
    have hm : len ≤ m := by rw [h4]; split <;> omega
    have each : ∀ i, i < len → ∃ s : ByteArray, s.size ≤ maxLen ∧ w.cell? (a.add i) = some (.string s) := by
      intro i hi
      obtain ⟨g1, g2⟩ := hx i (by omega)
      obtain ⟨s, z0, _, z1⟩ := DataW.trod_string he g2
      rw [List.head_eq_of_cons_eq z0] at g1
      exact ⟨s, z1, g1⟩
    obtain ⟨q, hq⟩ := choose_lt each
    refine ⟨(List.range len).map fun i => (q i).data.toList, ⟨⟨by simp, .inr ⟨a, cap, by simp, by simpa using h2, h3, fun h0 => ?_, ?_⟩⟩, ?_⟩⟩
    · exact World.block_lt_of_cell? w _ (hq 0 (by simpa using h0)).2
    · intro j u hj
      rw [List.map_map] at hj
      obtain ⟨hj1, rfl⟩ := range_map _ len j u hj
      exact (hq j hj1).2
    · intro x hx
      simp at hx
      obtain ⟨i, hi, rfl⟩ := hx
      simpa using (hq i hi).1
theorem open_elems {w : World} {sp : Nat → Bool} {held : Bool} {t e f : TypeId} {fuel : Nat} {v : Value} {x : DataW H × List MemPlace} (ht : P.underlying t = some (.slice e)) (he : P.underlying e = some (.slice f)) (hf : P.underlying f = some .string) (hc : P.cellsOf e = 1) (hc2 : P.cellsOf f = 1)
    (h : DataW.trod enc P w 0 sp held fuel t [v] = some x) : ∃ E : List (List (List UInt8)), ElemsIn (Has_ w) w v E := by
  rcases open_slice1 ht hc h with ⟨h1, _⟩ | ⟨a, len, cap, m, n, V, D, Pl, h1, _, h2, h3, h4, _, hx⟩
  · obtain rfl := List.head_eq_of_cons_eq h1
    exact ⟨[], [], ⟨rfl, .inl ⟨rfl, rfl⟩⟩, fun i e hi => by simp at hi⟩
  · obtain rfl := List.head_eq_of_cons_eq h1
    have hm : len ≤ m := by rw [h4]; split <;> omega
    have each : ∀ i, i < len → ∃ l : List (List UInt8), StrsIn (Has_ w) w (V i) l := fun i hi => open_strs he hf hc2 (hx i (by omega)).2
    obtain ⟨q, hq⟩ := choose_lt each
    refine ⟨(List.range len).map q, (List.range len).map V, ⟨by simp, .inr ⟨a, cap, by simp, by simpa using h2, h3, fun h0 => ?_, ?_⟩⟩, ?_⟩
    · exact World.block_lt_of_cell? w _ (hx 0 (by simp at h0; omega)).1
    · intro j u hj
      obtain ⟨hj1, rfl⟩ := range_map V len j u hj
      exact (hx j (by omega)).1
    · intro i e hi
      obtain ⟨hi1, rfl⟩ := range_map q len i e hi
      exact ⟨V i, by simp [hi1], hq i hi1⟩
end
end Go.Proofs.Ytenlfapdmknkjaa
