/- Segments in memory, as layer 6's laws lay and compare them; what decoding and encoding have to do with each other. No condition. -/
import Derived.Test.YtenlfapdmknkjaaSegAwake
import Derived.Test.YtenlfapdmknkjaaSegDec
import Derived.Test.YtenlfapdmknkjaaSegEnc
import Derived.Test.YtenlfapdmknkjaaSegSame
namespace Go.Proofs.Ytenlfapdmknkjaa
open Go.RowKit

theorem cellAt {w w1 : World} (hb : Below w.heap.size w w1) {p : Addr} {u : Value} (h : w.cell? p = some u) : w1.cell? p = some u := (hb.cell (World.block_lt_of_cell? w p h)).trans h
theorem below_alloc (w : World) (o : Obj) : Below w.heap.size w (w.alloc o) := (Below.refl _ _).alloc (Nat.le_refl _) _
theorem below_next {w w1 w2 : World} (h : Below w.heap.size w w1) (h2 : Below w1.heap.size w1 w2) : Below w.heap.size w w2 := h.trans (h2.mono h.size)
theorem same_below {w w1 : World} (h : ∃ m, w1 = w.drewN m) : Below w.heap.size w w1 := by
  obtain ⟨m, rfl⟩ := h
  exact below_drewN (Below.refl _ _) _
/-- Two values of one segment, laid into blocks of their own. -/
theorem pair_laid {w : World} {s : Seg} {x y : Value} (hx : ElemsIn (Has_ w) w x s.els) (hy : ElemsIn (Has_ w) w y s.els) (hs : s.tag.length ≤ maxLen) : ∀ W, W = (w.alloc (.cells #[strV s.tag, x] 24)).alloc (.cells #[strV s.tag, y] 24) →
    SegsIn (Has_ W) W (.slice (some ⟨w.heap.size, 0, none⟩) 1 1) [s] ∧ SegsIn (Has_ W) W (.slice (some ⟨w.heap.size + 1, 0, none⟩) 1 1) [s] ∧ Below w.heap.size w W := by
  intro W hW
  have hb1 := below_alloc w (.cells #[strV s.tag, x] 24)
  have hb2 := below_alloc (w.alloc (.cells #[strV s.tag, x] 24)) (.cells #[strV s.tag, y] 24)
  have hb := below_next hb1 hb2
  have hz : (w.alloc (.cells #[strV s.tag, x] 24)).heap.size = w.heap.size + 1 := by simp
  have h2 := heap_new (w.alloc (.cells #[strV s.tag, x] 24)) (.cells #[strV s.tag, y] 24)
  rw [hz] at h2
  rw [hW]
  exact ⟨segs_one (heap_old _ _ (heap_new _ _)) (hx.later hb) hs, segs_one h2 (hy.later hb) hs, hb⟩
/-- One segment, laid into a block of its own. -/
theorem one_laid {w : World} {s : Seg} {x : Value} (hx : ElemsIn (Has_ w) w x s.els) (hs : s.tag.length ≤ maxLen) : SegsIn (Has_ (w.alloc (.cells #[strV s.tag, x] 24))) (w.alloc (.cells #[strV s.tag, x] 24)) (.slice (some ⟨w.heap.size, 0, none⟩) 1 1) [s] :=
  segs_one (heap_new _ _) (hx.later (below_alloc _ _)) hs
/-- The cells of a variable that holds a segment. -/
theorem var_laid (w : World) (t : List UInt8) (x : Value) : (w.alloc (.cells #[.string ⟨t.toArray⟩, x] 24)).cell? ⟨w.heap.size, 0, none⟩ = some (.string ⟨t.toArray⟩) ∧ (w.alloc (.cells #[.string ⟨t.toArray⟩, x] 24)).cell? ⟨w.heap.size, 1, none⟩ = some x := ⟨by simp [go_sem], by simp [go_sem]⟩

theorem tag_len {s : Seg} (h : segE s = 0) : s.tag.length ≤ maxLen := by
  obtain ⟨a, b, c, ht, _⟩ := tag_shape (seg_ok h).1
  rw [ht]
  show 3 ≤ maxLen
  unfold maxLen
  omega
theorem next_tag (b : List UInt8) : (nextF b).1.tag.length ≤ maxLen := by
  rcases next_kinds b with h | ⟨h, _⟩
  · have := next_ok (b := b) (s := (nextF b).1) (n := (nextF b).2.1) (by rw [← h])
    exact tag_len this.1
  · rw [h]
    exact Nat.zero_le _
theorem dec_len : ∀ (f : Nat) (b : List UInt8) (at_ : Nat) (acc : List Seg), (decF f b at_ acc).1.length ≤ acc.length + f
  | 0, _, _, _ => Nat.le_refl _
  | f + 1, b, at_, acc => by
    by_cases hb : b = []
    · subst hb
      rw [dec_nil]
      show acc.length ≤ _
      omega
    · by_cases he : (nextF b).2.2 = 0
      · rw [dec_ok hb he]
        have := dec_len f (b.drop (nextF b).2.1) (at_ + (nextF b).2.1) (acc ++ [(nextF b).1])
        rw [List.length_append] at this
        have h1 : ([(nextF b).1] : List Seg).length = 1 := rfl
        omega
      · rw [dec_bad hb he]
        exact Nat.zero_le _
theorem decode_len (b : List UInt8) : (decodeF b).1.length ≤ b.length := by
  have := dec_len b.length b 0 []
  unfold decodeF
  simpa using this
/-- What is decoded is encoded so. -/
theorem decode_enc {b : List UInt8} (h : (decodeF b).2.2 = 0) : encF [] (decodeF b).1 = (b, 0) := by
  obtain ⟨M, m1, m2, m3, _⟩ := dec_spec b.length b 0 [] (decodeF b).1 (decodeF b).2.1 (Nat.le_refl _) (by rw [← h]; rfl)
  rw [List.nil_append] at m1
  rw [m1, encF_ok M [] m2, List.nil_append, m3]
/-- What is encoded is decoded so. -/
theorem encode_dec {L : List Seg} (h : ∀ s ∈ L, segE s = 0) : encF [] L = (L.flatMap encS, 0) ∧ decodeF (L.flatMap encS) = (L, (L.flatMap encS).length, 0) := by
  refine ⟨by rw [encF_ok L [] h]; simp, ?_⟩
  unfold decodeF
  rw [dec_enc L _ 0 [] h (Nat.le_refl _)]
  simp
theorem flat_small {L : List Seg} (h : ∀ s ∈ L, segE s = 0) (hn : L.length ≤ 24) : (L.flatMap encS).length ≤ 720000000 := by
  have := flat_len encS 30000000 L (fun s hs => encS_len (h s hs))
  omega
theorem next_nil : nextF [] = (noSeg, 0, 5) := rfl
end Go.Proofs.Ytenlfapdmknkjaa
