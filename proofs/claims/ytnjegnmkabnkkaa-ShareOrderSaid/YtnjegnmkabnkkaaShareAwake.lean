/- The sanity check of layer 3's laws returns true. No condition. -/
import Derived.Test.YtnjegnmkabnkkaaShareCode
namespace Go.Proofs.Ytnjegnmkabnkkaa
open Go.RowKit

/-- A list of given numbers. -/
def litI (l : List Int) (i : Nat) : Int := l.getD i 0
theorem lit_at (l : List Int) (hl : l.length ≤ 1000) (hwf : ∀ x ∈ l, (Lit.int .i64 x).wf = true) (w : World) :
    ListAt (w.alloc (.cells (l.map fun x => Value.int .i64 x).toArray 3)) .i64 (.slice (some ⟨w.heap.size, 0, none⟩) l.length l.length) l.length (litI l) := by
  refine .inr ⟨_, _, rfl, Nat.le_refl _, by unfold maxLen; omega, fun i hi => ⟨?_, ?_⟩⟩
  · have e : (⟨w.heap.size, 0, none⟩ : Addr).add i = ⟨w.heap.size, i, none⟩ := by
      unfold Addr.add
      by_cases hz : i = 0 <;> simp [hz]
    rw [e]
    refine (World.cell?_alloc_mark w _ _ _ i).trans ?_
    unfold litI
    simp [List.getD, List.getElem?_eq_getElem hi]
  · unfold litI
    have : l.getD i 0 = l[i] := by simp [List.getD, List.getElem?_eq_getElem hi]
    rw [this]
    exact hwf _ (List.getElem_mem _)

theorem awake3_share : shE 100 3 (litI [1, 1, 1]) = 0 ∧ shN 100 3 (litI [1, 1, 1]) = 3 ∧ ∀ i, i < 3 → shI 100 3 (litI [1, 1, 1]) i = litI [34, 33, 33] i := by
  refine ⟨by decide, by decide, fun i hi => ?_⟩
  have : i = 0 ∨ i = 1 ∨ i = 2 := by omega
  rcases this with rfl | rfl | rfl <;> decide
theorem awake3_cap : cpE 10 2 (litI [4, 16]) = 0 ∧ cpN 10 2 (litI [4, 16]) = 2 ∧ ∀ i, i < 2 → cpI 10 2 (litI [4, 16]) i = litI [2, 8] i := by
  refine ⟨by decide, by decide, fun i hi => ?_⟩
  have : i = 0 ∨ i = 1 := by omega
  rcases this with rfl | rfl <;> decide

set_option maxHeartbeats 800000 in
theorem awake3_any (w : World) : Calls Try.prog 15 #[] w fun e w' => e = .returned (.bool true) ∧ Below w.heap.size w w' := by
  obtain ⟨p1, p2, p3⟩ := awake3_share
  obtain ⟨q1, q2, q3⟩ := awake3_cap
  have h1 := share_any 100 _ 3 _ _ (lit_at [1, 1, 1] (by decide) (by decide) w)
  unfold ShareGives at h1
  rw [p1, p2] at h1
  have H1 := Lib.hid h1
  have H2 := Lib.hid (fun w1 => (show Calls _ _ _ _ _ from cap_any 10 _ 2 _ _ (lit_at [4, 16] (by decide) (by decide) w1)))
  have P3 := Lib.hid p3
  have Q3 := Lib.hid q3
  unfold CapGives at H2
  rw [q1, q2] at H2
  clear p1 p2 p3 q1 q2 q3 h1
  go_enter Try.func15, Try.ntmps15
  go_wp2_with fail
  refine H1.out.mono ?_
  rintro e w1 ⟨u, rfl, hO, hb1⟩
  have hB1 : Below w.heap.size w w1 := ((Below.refl _ _).alloc (Nat.le_refl _) _).trans (hb1.mono (by simp))
  have ha := hO.list
  clear hO hb1 H1
  go_wp2_with fail
  refine (H2.out w1).mono ?_
  rintro e w2 ⟨v, rfl, hO2, hb2⟩
  have hb3 : Below w1.heap.size w1 w2 := ((Below.refl _ _).alloc (Nat.le_refl _) _).trans (hb2.mono (by simp))
  have hB2 := hB1.trans (hb3.mono hB1.size)
  have ha2 := ListAt.keep ha hb3
  have hc := hO2.list
  clear hO2 hb2 hb3 H2 ha
  have hl1 := lit_at [34, 33, 33] (by decide) (by decide) w2
  have hw3 : Below w2.heap.size w2 (w2.alloc (.cells ([34, 33, 33].map fun x => Value.int .i64 x).toArray 3)) := (Below.refl _ _).alloc (Nat.le_refl _) _
  have HS1 := Lib.hid (refSame_true u _ 3 _ _ _ (ListAt.keep ha2 hw3) hl1 P3.out)
  have hB3 := hB2.trans (hw3.mono hB2.size)
  have hc3 := ListAt.keep hc hw3
  have HS2 := Lib.hid (fun w4 (hb : Below _ (w2.alloc (.cells ([34, 33, 33].map fun x => Value.int .i64 x).toArray 3)) w4) => refSame_true v _ 2 _ _ _ (ListAt.keep (ListAt.keep hc3 hb) ((Below.refl _ _).alloc (Nat.le_refl _) (.cells ([2, 8].map fun x => Value.int .i64 x).toArray 3))) (lit_at [2, 8] (by decide) (by decide) w4) Q3.out)
  clear ha2 hc hl1 hw3 hc3
  go_wp2_with fail
  refine HS1.out.mono ?_
  rintro e w4 ⟨rfl, hb4⟩
  have hB4 := hB3.trans (hb4.mono hB3.size)
  go_wp2_with fail
  refine (HS2.out w4 hb4).mono ?_
  rintro e w5 ⟨rfl, hb5⟩
  have hB5 : Below w.heap.size w w5 := hB4.trans (((Below.refl w4.heap.size w4).alloc (Nat.le_refl _) _).trans (hb5.mono (by simp)) |>.mono hB4.size)
  go_wp2_with fail
  go_ret
  exact ⟨rfl, hB5⟩
end Go.Proofs.Ytnjegnmkabnkkaa
