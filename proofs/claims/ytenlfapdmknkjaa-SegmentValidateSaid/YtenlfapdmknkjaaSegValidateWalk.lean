/- The walk through SegmentValidate. Condition: the segment's cells are known. -/
import Derived.Test.YtenlfapdmknkjaaSegAwake
import Derived.Test.YtenlfapdmknkjaaSegVal
import Derived.Deep.RegionHeld3
namespace Go.Proofs.Ytenlfapdmknkjaa
open Go.RowKit

/-- What the drawn statement keeps. -/
theorem val_drew {w w1 : World} {B : Nat} {t x : Value} {v : Value} {E : List (List (List UInt8))} (h : w1.cell? ⟨B, 0, none⟩ = some t ∧ w1.cell? ⟨B, 1, none⟩ = some x ∧ ElemsIn (Has_ w1) w1 v E ∧ Below w.heap.size w w1) :
    w1.drew.cell? ⟨B, 0, none⟩ = some t ∧ w1.drew.cell? ⟨B, 1, none⟩ = some x ∧ ElemsIn (Has_ w1.drew) w1.drew v E ∧ Below w.heap.size w w1.drew :=
  ⟨h.1, h.2.1, h.2.2.1.later ((Below.refl _ _).drew), h.2.2.2.drew⟩
theorem val_call {w w1 w2 : World} {B : Nat} {t x : Value} {v : Value} {E : List (List (List UInt8))} (hb : Below w1.heap.size w1 w2) (h : w1.cell? ⟨B, 0, none⟩ = some t ∧ w1.cell? ⟨B, 1, none⟩ = some x ∧ ElemsIn (Has_ w1) w1 v E ∧ Below w.heap.size w w1) :
    w2.cell? ⟨B, 0, none⟩ = some t ∧ w2.cell? ⟨B, 1, none⟩ = some x ∧ ElemsIn (Has_ w2) w2 v E ∧ Below w.heap.size w w2 := by
  have k := fun p u (h : w1.cell? p = some u) => (hb.cell (World.block_lt_of_cell? w1 p h)).trans h
  exact ⟨k _ _ h.1, k _ _ h.2.1, h.2.2.1.later hb, h.2.2.2.trans (hb.mono h.2.2.2.size)⟩

theorem val_els {w w1 : World} {B : Nat} {t x : Value} {v : Value} {E : List (List (List UInt8))} (h : w1.cell? ⟨B, 0, none⟩ = some t ∧ w1.cell? ⟨B, 1, none⟩ = some x ∧ ElemsIn (Has_ w1) w1 v E ∧ Below w.heap.size w w1) : ElemsIn (Has_ w1) w1 v E := h.2.2.1

set_option maxRecDepth 100000 in
set_option maxHeartbeats 1600000 in
theorem segmentValidate_walk (t : List UInt8) (ht : t.length ≤ maxLen) (v : Value) (E : List (List (List UInt8))) (w : World) (h : ElemsIn (Has_ w) w v E) :
    Calls Try.prog 3 #[.agg #[strV t, v]] w fun e w' => e = .returned (.bool true) ∧ Below w.heap.size w w' := by
  have HV := Lib.hid (fun w h => segValidate_any t ht v E w h)
  have HR := Lib.hid (fun w h => refSegment_any t ht v E w h)
  have HA := Lib.hid (fun w => awake6_any w)
  obtain ⟨ao, cap, rfl⟩ := h.slice
  have hb0 : Below w.heap.size w (w.alloc (.cells #[strV t, .slice ao E.length cap] 24)) := (Below.refl _ _).alloc (Nat.le_refl _) _
  have hS0 : (w.alloc (.cells #[strV t, .slice ao E.length cap] 24)).cell? ⟨w.heap.size, 0, none⟩ = some (strV t) ∧ (w.alloc (.cells #[strV t, .slice ao E.length cap] 24)).cell? ⟨w.heap.size, 1, none⟩ = some (.slice ao E.length cap) ∧ ElemsIn (Has_ (w.alloc (.cells #[strV t, .slice ao E.length cap] 24))) (w.alloc (.cells #[strV t, .slice ao E.length cap] 24)) (.slice ao E.length cap) E ∧ Below w.heap.size w (w.alloc (.cells #[strV t, .slice ao E.length cap] 24)) :=
    ⟨by simp [go_sem], by simp [go_sem], h.later hb0, hb0⟩
  have hV0 := Lib.hid h
  clear h hb0
  generalize segE ⟨t, E⟩ = F at *
  unfold strV at hS0 HV HR ⊢
  go_enter Try.func3, Try.ntmps3
  go_wp2_with fail
  generalize w.alloc (.cells #[.string ⟨t.toArray⟩, .slice ao E.length cap] 24) = W at *
  go_region_held3 (fun w' => w'.cell? ⟨w.heap.size, 0, none⟩ = some (.string ⟨t.toArray⟩) ∧ w'.cell? ⟨w.heap.size, 1, none⟩ = some (.slice ao E.length cap) ∧ ElemsIn (Has_ w') w' (.slice ao E.length cap) E ∧ Below w.heap.size w w')
    (first
      | assumption
      | exact val_drew (by assumption)
      | exact val_call (by assumption) (by assumption))
    (first
      | (go_at_call 9; refine (HV.out _ ?_).mono ?_; exact val_els (by assumption); rintro e w' ⟨rfl, hbk⟩)
      | (go_at_call 10; refine (HR.out _ ?_).mono ?_; exact val_els (by assumption); rintro e w' ⟨rfl, hbk⟩)
      | (go_at_call 11; refine (HA.out _).mono ?_; rintro e w' ⟨rfl, hbk⟩))
  all_goals
    rename_i hh
    have hL := hh.2.2.2
    go_wp2_with fail
    go_ret
    exact ⟨rfl, hL⟩
end Go.Proofs.Ytenlfapdmknkjaa
