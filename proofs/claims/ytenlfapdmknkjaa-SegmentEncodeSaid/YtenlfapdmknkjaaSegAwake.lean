/- What awake of layer 6's laws returns. No condition. -/
import Derived.Test.YtenlfapdmknkjaaSegCode
import Derived.Lib.SlBytesConst
namespace Go.Proofs.Ytenlfapdmknkjaa
open Go.RowKit

def lotS : Seg := ⟨[76, 79, 84], [[[49]], [], [[97, 58, 98], [99]]]⟩
theorem lot_enc : encF [] [lotS] = ([76, 79, 84, 43, 49, 43, 43, 97, 63, 58, 98, 58, 99, 39], 0) := by decide
theorem ab_dec : decodeF [65, 39, 66] = ([], 0, 4) := rfl
theorem heap_new (w : World) (o : Obj) : (w.alloc o).heap[w.heap.size]? = some o := by
  show (w.heap.push o)[w.heap.size]? = some o
  simp
theorem heap_old (w : World) (o : Obj) {k : Nat} {x : Obj} (h : w.heap[k]? = some x) : (w.alloc o).heap[k]? = some x := by
  have hk := (Array.getElem?_eq_some_iff.1 h).1
  show (w.heap.push o)[k]? = some x
  rw [Array.getElem?_push_lt hk]
  rw [← h]
  simp [hk]
/-- The fixed segment, as awake lays it. -/
theorem lot_laid (w : World) : ∀ W, W = (((w.alloc (.cells #[.string ⟨#[49]⟩] 9)).alloc (.cells #[.string ⟨#[97, 58, 98]⟩, .string ⟨#[99]⟩] 9)).alloc (.cells #[.slice (some ⟨w.heap.size, 0, none⟩) 1 1, .slice none 0 0, .slice (some ⟨w.heap.size + 1, 0, none⟩) 2 2] 49)).alloc (.cells #[.string ⟨#[76, 79, 84]⟩, .slice (some ⟨w.heap.size + 2, 0, none⟩) 3 3] 24) →
    SegsIn (Has_ W) W (.slice (some ⟨w.heap.size + 3, 0, none⟩) 1 1) [lotS] ∧ Below w.heap.size w W := by
  intro W hW
  obtain ⟨w1, h1⟩ : ∃ w1, w1 = w.alloc (.cells #[.string ⟨#[49]⟩] 9) := ⟨_, rfl⟩
  obtain ⟨w2, h2⟩ : ∃ w2, w2 = w1.alloc (.cells #[.string ⟨#[97, 58, 98]⟩, .string ⟨#[99]⟩] 9) := ⟨_, rfl⟩
  obtain ⟨w3, h3⟩ : ∃ w3, w3 = w2.alloc (.cells #[.slice (some ⟨w.heap.size, 0, none⟩) 1 1, .slice none 0 0, .slice (some ⟨w.heap.size + 1, 0, none⟩) 2 2] 49) := ⟨_, rfl⟩
  rw [← h1, ← h2, ← h3] at hW
  have s1 : w1.heap.size = w.heap.size + 1 := by rw [h1]; simp
  have s2 : w2.heap.size = w.heap.size + 2 := by rw [h2]; simp [s1]
  have s3 : w3.heap.size = w.heap.size + 3 := by rw [h3]; simp [s2]
  have b1 : Below w.heap.size w w1 := by rw [h1]; exact (Below.refl _ _).alloc (Nat.le_refl _) _
  have b2 : Below w.heap.size w w2 := by rw [h2]; exact b1.alloc b1.size _
  have b3 : Below w.heap.size w w3 := by rw [h3]; exact b2.alloc b2.size _
  have b4 : Below w.heap.size w W := by rw [hW]; exact b3.alloc b3.size _
  have g1 : w1.heap[w.heap.size]? = some (.cells #[.string ⟨#[49]⟩] 9 (0, 0)) := by rw [h1]; exact heap_new _ _
  have g2 : w2.heap[w.heap.size + 1]? = some (.cells #[.string ⟨#[97, 58, 98]⟩, .string ⟨#[99]⟩] 9 (0, 0)) := by rw [h2, ← s1]; exact heap_new _ _
  have g3 : w3.heap[w.heap.size + 2]? = some (.cells #[.slice (some ⟨w.heap.size, 0, none⟩) 1 1, .slice none 0 0, .slice (some ⟨w.heap.size + 1, 0, none⟩) 2 2] 49 (0, 0)) := by rw [h3, ← s2]; exact heap_new _ _
  have g4 : W.heap[w.heap.size + 3]? = some (.cells #[.string ⟨#[76, 79, 84]⟩, .slice (some ⟨w.heap.size + 2, 0, none⟩) 3 3] 24 (0, 0)) := by rw [hW, ← s3]; exact heap_new _ _
  have e1 : W.heap[w.heap.size]? = some (.cells #[.string ⟨#[49]⟩] 9 (0, 0)) := by rw [hW]; refine heap_old _ _ ?_; rw [h3]; refine heap_old _ _ ?_; rw [h2]; exact heap_old _ _ g1
  have e2 : W.heap[w.heap.size + 1]? = some (.cells #[.string ⟨#[97, 58, 98]⟩, .string ⟨#[99]⟩] 9 (0, 0)) := by rw [hW]; refine heap_old _ _ ?_; rw [h3]; exact heap_old _ _ g2
  have e3 : W.heap[w.heap.size + 2]? = some (.cells #[.slice (some ⟨w.heap.size, 0, none⟩) 1 1, .slice none 0 0, .slice (some ⟨w.heap.size + 1, 0, none⟩) 2 2] 49 (0, 0)) := by rw [hW]; exact heap_old _ _ g3
  refine ⟨segs_one (s := lotS) g4 ⟨[.slice (some ⟨w.heap.size, 0, none⟩) 1 1, .slice none 0 0, .slice (some ⟨w.heap.size + 1, 0, none⟩) 2 2], cells_lit (cs := [.slice (some ⟨w.heap.size, 0, none⟩) 1 1, .slice none 0 0, .slice (some ⟨w.heap.size + 1, 0, none⟩) 2 2]) e3 3 1 rfl (by unfold maxLen; omega), fun i e hi => ?_⟩ (by unfold maxLen; decide), b4⟩
  match i with
  | 0 =>
    simp [lotS] at hi
    subst hi
    exact ⟨_, rfl, strs_lit (l := [[49]]) e1 (by unfold maxLen; decide) (by unfold maxLen; decide)⟩
  | 1 =>
    simp [lotS] at hi
    subst hi
    exact ⟨_, rfl, strs_nil W⟩
  | 2 =>
    simp [lotS] at hi
    subst hi
    exact ⟨_, rfl, strs_lit (l := [[97, 58, 98], [99]]) e2 (by unfold maxLen; decide) (by unfold maxLen; decide)⟩
  | i + 3 => simp [lotS] at hi
theorem ab_laid (w : World) (fz : Nat × Nat) : BytesIn (Has_ (w.alloc (.cells #[.int .u8 65, .int .u8 39, .int .u8 66] 5 fz))) (w.alloc (.cells #[.int .u8 65, .int .u8 39, .int .u8 66] 5 fz)) (.slice (some ⟨w.heap.size, 0, none⟩) 3 3) [65, 39, 66] :=
  cells_lit (cs := [.int .u8 65, .int .u8 39, .int .u8 66]) (heap_new w _) 3 1 rfl (by unfold maxLen; omega)

set_option maxRecDepth 100000 in
set_option maxHeartbeats 800000 in
theorem awake6_any (w : World) : Calls Try.prog 11 #[] w fun e w' => e = .returned (.bool true) ∧ Below w.heap.size w w' := by
  have HE := Lib.hid (fun v w h => segEncode_any v [lotS] w h (by decide))
  rw [lot_enc] at HE
  have HD := Lib.hid (fun v w h => segDecode_any v [65, 39, 66] w h (by decide))
  rw [ab_dec] at HD
  have HL := Lib.hid (lot_laid w _ rfl)
  have kc := fun (w : World) (C : Array Value) (n c : Nat) => Lib.run_convert_bytes_const (P := Try.prog) w 32 5 C n c Try.underlying32 Try.underlying5
  go_enter Try.func11, Try.ntmps11
  go_wp2_with fail
  refine (HE.out _ _ HL.out.1).mono ?_
  rintro e w1 ⟨u, rfl, hu, hb⟩
  have HB := Lib.hid (HL.out.2.trans (hb.mono HL.out.2.size))
  have HU := Lib.hid hu
  clear HL hu hb HE
  go_wp2_with fail
  refine (HD.out _ _ (ab_laid w1 _)).mono ?_
  rintro e w2 ⟨x, rfl, _, hb⟩
  have hb0 : Below w1.heap.size w1 (w1.alloc (.cells #[.int .u8 65, .int .u8 39, .int .u8 66] 5 (3, 4))) := (Below.refl _ _).alloc (Nat.le_refl _) _
  have hb1 := hb0.trans (hb.mono hb0.size)
  have hcv := (HU.out.later hb1).text
  have HB2 := Lib.hid (HB.out.trans (hb1.mono HB.out.size))
  clear HU hb hb0 hb1 HB HD
  go_wp2_with fail
  go_ret
  exact ⟨rfl, HB2.out⟩
end Go.Proofs.Ytenlfapdmknkjaa
