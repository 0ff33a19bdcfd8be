/- SameSegments of the reference of layer 6 is true of two values of one list. Condition: the cells are known. -/
import Derived.Test.YtenlfapdmknkjaaSegMem
import Derived.Handy
import Derived.Deep.RegionHeld3
namespace Go.Proofs.Ytenlfapdmknkjaa
open Go.RowKit

set_option maxRecDepth 100000 in
set_option maxHeartbeats 3200000 in
theorem refSame_any (v1 v2 : Value) (L : List Seg) (w : World) (h1 : SegsIn (Has_ w) w v1 L) (h2 : SegsIn (Has_ w) w v2 L) :
    Calls Try.prog 17 #[v1, v2] w fun e w' => e = .returned (.bool true) ∧ ∃ m, w' = w.drewN m := by
  obtain ⟨a1, cap1, rfl, hL, f1⟩ := h1.form
  obtain ⟨a2, cap2, rfl, _, f2⟩ := h2.form
  have F1 := Lib.hid f1
  have F2 := Lib.hid f2
  clear h1 h2 f1 f2
  have hLb : L.length ≤ 9223372036854775807 := by unfold maxLen at hL; omega
  go_enter Try.func17, Try.ntmps17
  go_wp2_with fail
  go_loopw [5] (fun vi wx => ∃ i : Nat, vi = .int .i64 i ∧ i ≤ L.length ∧ ∃ m, wx = w.drewN m) (fun vi _ => L.length - (intOf vi).toNat)
  case atStart => exact ⟨0, by go_num, by omega, 0, rfl⟩
  case round =>
    obtain ⟨i, rfl, hi, m, rfl⟩ := hrel
    by_cases hlt : i < L.length
    · have d1 : decide ((i : Int) < (L.length : Int)) = true := decide_eq_true (by omega)
      obtain ⟨s, hs⟩ : ∃ s, L[i]? = some s := ⟨_, List.getElem?_eq_getElem hlt⟩
      obtain ⟨b1, u1, rfl, t1, e1, x1, _⟩ := F1.out i s hs
      obtain ⟨b2, u2, rfl, t2, e2, x2, _⟩ := F2.out i s hs
      obtain ⟨o1, c1, rfl, hE, g1⟩ := x1.form
      obtain ⟨o2, c2, rfl, _, g2⟩ := x2.form
      have G1 := Lib.hid g1
      have G2 := Lib.hid g2
      unfold strV at t1 t2
      have C := Lib.hid (show ∀ m, ((w.drewN m).cell? (b1.add (i * 2)) = some (.string ⟨s.tag.toArray⟩) ∧ (w.drewN m).cell? (b2.add (i * 2)) = some (.string ⟨s.tag.toArray⟩)) ∧ (w.drewN m).cell? ⟨(b1.add (i * 2)).block, (b1.add (i * 2)).off + 1, none⟩ = some (.slice o1 s.els.length c1) ∧ (w.drewN m).cell? ⟨(b2.add (i * 2)).block, (b2.add (i * 2)).off + 1, none⟩ = some (.slice o2 s.els.length c2) from fun m => ⟨⟨t1, t2⟩, e1, e2⟩)
      have hEb : s.els.length ≤ 9223372036854775807 := by unfold maxLen at hE; omega
      have j1 : (0 : Int) ≤ (i : Int) := by omega
      have j2 : (i : Int) < (L.length : Int) := by omega
      clear F1 F2 x1 x2 g1 g2 t1 t2 e1 e2
      obtain ⟨⟨t1, t2⟩, e1, e2⟩ := C.out m
      go_wp2_with fail
      go_region_held3 (fun w' => (w'.cell? (b1.add (i * 2)) = some (.string ⟨s.tag.toArray⟩) ∧ w'.cell? (b2.add (i * 2)) = some (.string ⟨s.tag.toArray⟩)) ∧ w'.cell? ⟨(b1.add (i * 2)).block, (b1.add (i * 2)).off + 1, none⟩ = some (.slice o1 s.els.length c1) ∧ w'.cell? ⟨(b2.add (i * 2)).block, (b2.add (i * 2)).off + 1, none⟩ = some (.slice o2 s.els.length c2)) (exact ⟨⟨t1, t2⟩, e1, e2⟩) (fail)
      clear t1 t2 e1 e2
      go_wp2_with fail
      go_loopw [6] (fun vk wx => ∃ k : Nat, vk = .int .i64 k ∧ k ≤ s.els.length ∧ ∃ m, wx = w.drewN m) (fun vk _ => s.els.length - (intOf vk).toNat)
      case atStart => exact ⟨0, by go_num, by omega, m + 1, rfl⟩
      case round =>
        obtain ⟨k, rfl, hk, m2, rfl⟩ := hrel
        obtain ⟨⟨t1, t2⟩, e1, e2⟩ := C.out m2
        by_cases hlk : k < s.els.length
        · have d2 : decide ((k : Int) < (s.els.length : Int)) = true := decide_eq_true (by omega)
          obtain ⟨e, he⟩ : ∃ e, s.els[k]? = some e := ⟨_, List.getElem?_eq_getElem hlk⟩
          obtain ⟨b3, u3, rfl, y1, z1⟩ := G1.out k e he
          obtain ⟨b4, u4, rfl, y2, z2⟩ := G2.out k e he
          obtain ⟨o3, c3, rfl, hX, g3⟩ := z1.form
          obtain ⟨o4, c4, rfl, _, g4⟩ := z2.form
          have G3 := Lib.hid g3
          have G4 := Lib.hid g4
          have y1 : (w.drewN m2).cell? (b3.add k) = some (.slice o3 e.length c3) := y1
          have y2 : (w.drewN m2).cell? (b4.add k) = some (.slice o4 e.length c4) := y2
          have hXb : e.length ≤ 9223372036854775807 := by unfold maxLen at hX; omega
          have j3 : (0 : Int) ≤ (k : Int) := by omega
          have j4 : (k : Int) < (s.els.length : Int) := by omega
          clear G1 G2 z1 z2 g3 g4
          go_wp2_with fail
          go_region_held3 (fun w' => (w'.cell? ⟨(b1.add (i * 2)).block, (b1.add (i * 2)).off + 1, none⟩ = some (.slice (some b3) s.els.length c1) ∧ w'.cell? ⟨(b2.add (i * 2)).block, (b2.add (i * 2)).off + 1, none⟩ = some (.slice (some b4) s.els.length c2)) ∧ w'.cell? (b3.add k) = some (.slice o3 e.length c3) ∧ w'.cell? (b4.add k) = some (.slice o4 e.length c4)) (exact ⟨⟨e1, e2⟩, y1, y2⟩) (fail)
          clear t1 t2 e1 e2 y1 y2
          go_wp2_with fail
          go_loopw [9] (fun vj wx => ∃ j : Nat, vj = .int .i64 j ∧ j ≤ e.length ∧ ∃ m, wx = w.drewN m) (fun vj _ => e.length - (intOf vj).toNat)
          case atStart => exact ⟨0, by go_num, by omega, m2 + 1, rfl⟩
          case round =>
            obtain ⟨j, rfl, hj, m3, rfl⟩ := hrel
            by_cases hlj : j < e.length
            · have d3 : decide ((j : Int) < (e.length : Int)) = true := decide_eq_true (by omega)
              obtain ⟨x, hx⟩ : ∃ x, e[j]? = some x := ⟨_, List.getElem?_eq_getElem hlj⟩
              obtain ⟨b5, rfl, x1, _⟩ := G3.out j x hx
              obtain ⟨b6, rfl, x2, _⟩ := G4.out j x hx
              unfold strV at x1 x2
              have x1 : (w.drewN m3).cell? (b5.add j) = some (.string ⟨x.toArray⟩) := x1
              have x2 : (w.drewN m3).cell? (b6.add j) = some (.string ⟨x.toArray⟩) := x2
              have j5 : (0 : Int) ≤ (j : Int) := by omega
              have j6 : (j : Int) < (e.length : Int) := by omega
              clear G3 G4
              go_wp2_with fail
              go_region_held3 (fun w' => w'.cell? (b5.add j) = some (.string ⟨x.toArray⟩) ∧ w'.cell? (b6.add j) = some (.string ⟨x.toArray⟩)) (exact ⟨x1, x2⟩) (fail)
              clear x1 x2
              go_wp2_with fail
              go_roundw
              case rel => exact ⟨j + 1, by go_num, by omega, m3 + 1, rfl⟩
              case measure => simp [intOf]; omega
            · obtain rfl : j = e.length := by omega
              have d3 : decide ((e.length : Int) < (e.length : Int)) = false := decide_eq_false (by omega)
              go_wp2_with fail
              case roundEnd => exact ⟨⟨k + 1, by go_num, by omega, m3, rfl⟩, by simp [intOf]; omega⟩
        · obtain rfl : k = s.els.length := by omega
          have d2 : decide ((s.els.length : Int) < (s.els.length : Int)) = false := decide_eq_false (by omega)
          go_wp2_with fail
          case roundEnd => exact ⟨⟨i + 1, by go_num, by omega, m2, rfl⟩, by simp [intOf]; omega⟩
    · obtain rfl : i = L.length := by omega
      have d1 : decide ((L.length : Int) < (L.length : Int)) = false := decide_eq_false (by omega)
      clear F1 F2
      go_wp2_with fail
      simp [bodyPost, results, Try.results17, go_sem]
      exact ⟨m, rfl⟩
end Go.Proofs.Ytenlfapdmknkjaa
