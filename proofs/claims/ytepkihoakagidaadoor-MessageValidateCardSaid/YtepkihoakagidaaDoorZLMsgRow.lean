/- What texts and simple of the landed package message return for lists just made. Condition: the library's table lies as it was laid. -/
import Derived.Test.YtepkihoakagidaaDoorG4
import Derived.Test.YtepkihoakagidaaDoorZLMsgValidate
namespace Go.Proofs.YtepkihoakagidaaDoor
open Go.RowKit

theorem am_range {n : Int} (h : amB n = true) : -9223372036854775808 ≤ n ∧ n ≤ 9223372036854775807 := by
  simp [amB] at h
  omega
theorem texts_new (l : List Int) (W : World) (hl : l.length ≤ 1000) (hr : ∀ n ∈ l, -9223372036854775808 ≤ n ∧ n ≤ 9223372036854775807) (hL : MLib W) :
    Calls Tryd.prog 41 #[.slice (some ⟨W.heap.size, 0, none⟩) l.length l.length] (W.alloc (.cells (l.map fun n => (.int .i64 n : Value)).toArray 3)) fun e w' => ∃ B, e = .returned (.slice (some ⟨B, 0, none⟩) l.length l.length) ∧ StrsIn (StrB w') w' (.slice (some ⟨B, 0, none⟩) l.length l.length) (l.map Lib.itoa) ∧ Below W.heap.size W w' := by
  have hb : Below W.heap.size W (W.alloc (.cells (l.map fun n => (.int .i64 n : Value)).toArray 3)) := (Below.refl _ _).alloc (Nat.le_refl _) _
  refine (texts_any _ l _ (nums_new W l 3 hl) (by omega) hr (hL.keep hb)).mono ?_
  rintro e w1 ⟨B, h1, h2, h3⟩
  exact ⟨B, h1, h2, hb.trans (h3.mono hb.size)⟩
theorem StrB.has {w : World} {b : Nat} (h : StrB w b) : Has_ w b := by
  obtain ⟨cs, fz, h1⟩ := h
  exact (Array.getElem?_eq_some_iff.1 h1).1
theorem StrsIn.has {w : World} {v : Value} {l : List (List UInt8)} (h : StrsIn (StrB w) w v l) : StrsIn (Has_ w) w v l := h.keep fun _ hb => ⟨hb.has, rfl⟩
/-- A segment of numbers, out of their texts. -/
theorem rowSimple_any (tag : List UInt8) (l : List Int) (v : Value) (W : World) (h : StrsIn (StrB W) W v (l.map Lib.itoa)) (hl : l.length ≤ 1000) :
    Calls Tryd.prog 40 #[strV tag, v] W fun e w' => ∃ u, e = .returned (.agg #[strV tag, u]) ∧ ElemsIn (NotSeg w') w' u (rowS tag l).els ∧ Below W.heap.size W w' := by
  have := simple_any tag v (l.map Lib.itoa) W h.has (by simp; omega)
  rw [List.map_map] at this
  exact this
theorem strs_new (W : World) (xs : List (List UInt8)) (hl : xs.length ≤ 1000) (hx : ∀ x ∈ xs, x.length ≤ maxLen) :
    StrsIn (StrB (W.alloc (.cells (xs.map strV).toArray 9))) (W.alloc (.cells (xs.map strV).toArray 9)) (.slice (some ⟨W.heap.size, 0, none⟩) xs.length xs.length) xs := by
  have h1 : (W.alloc (.cells (xs.map strV).toArray 9)).heap[W.heap.size]? = some (.cells (xs.map strV).toArray 9 (0, 0)) := by
    show (W.heap.push _)[W.heap.size]? = _
    simp
  refine ⟨⟨by simp, .inr ⟨_, _, rfl, Nat.le_refl _, by unfold maxLen; omega, fun _ => ⟨_, _, h1⟩, fun j u hj => ?_⟩⟩, hx⟩
  rw [Addr.add_lit, Nat.zero_add]
  unfold World.cell?
  rw [h1]
  simpa using hj
theorem simple_new (tag : List UInt8) (xs : List (List UInt8)) (W : World) (hl : xs.length ≤ 1000) (hx : ∀ x ∈ xs, x.length ≤ maxLen) :
    Calls Tryd.prog 40 #[strV tag, .slice (some ⟨W.heap.size, 0, none⟩) xs.length xs.length] (W.alloc (.cells (xs.map strV).toArray 9)) fun e w' => ∃ u, e = .returned (.agg #[strV tag, u]) ∧ ElemsIn (NotSeg w') w' u (xs.map elS) ∧ Below W.heap.size W w' := by
  have hb : Below W.heap.size W (W.alloc (.cells (xs.map strV).toArray 9)) := (Below.refl _ _).alloc (Nat.le_refl _) _
  refine (simple_any tag _ xs _ (strs_new W xs hl hx).has (by omega)).mono ?_
  rintro e w1 ⟨u, h1, h2, h3⟩
  exact ⟨u, h1, h2, hb.trans (h3.mono hb.size)⟩
end Go.Proofs.YtepkihoakagidaaDoor
