/- The sanity check of layer 5's laws returns true; the made currencies. No condition. -/
import Derived.Test.YtjjidbnjkhdkaaaCurMade2
import Derived.Test.YtjjidbnjkhdkaaaCurCode
namespace Go.Proofs.Ytjjidbnjkhdkaaa
open Go.RowKit

/-- A row of the call's own, or a literal, is a table. -/
theorem tab_of_row {w : World} {base : Nat} {u : Value} {L : List Exch} (h : w.ownsRow base 25 3 u L.length (cellsX L)) (hs : ∀ i, i < L.length → (sX L i).size ≤ maxLen) : TabAt w u L.length (sX L) (fX L) (rX L) := by
  obtain ⟨_, ⟨h1, h2⟩ | ⟨g, cap, cur, h1, h2, h3, h4, h5, h6, h7⟩⟩ := h
  · exact .inl ⟨h1, h2⟩
  · refine .inr ⟨_, cap, h1, h4, h5, fun i hi => ?_⟩
    have hcell : ∀ (j : Nat) (x : Value), j < L.length * 3 → (cellsX L)[j]? = some x → w.cell? ⟨g, j, none⟩ = some x := fun j x hj hx => by
      have e := congrArg (·[j]?) h7
      rw [List.getElem?_take_of_lt hj, hx] at e
      simp [World.cell?, h3]
      simpa using e
    obtain ⟨c1, c2, c3⟩ := cellsX_at L i hi
    rw [Addr.add_lit, Nat.zero_add]
    exact ⟨hs i hi, hcell (i * 3) _ (by omega) c1, hcell (i * 3 + 1) _ (by omega) c2, hcell (i * 3 + 2) _ (by omega) c3⟩
theorem curB_size {s : ByteArray} (h : curB s = true) : s.size ≤ maxLen := by
  unfold curB at h
  rw [Bool.and_eq_true, Bool.and_eq_true, beq_iff_eq] at h
  rw [h.2.1]
  unfold maxLen
  omega
theorem GoodX.size {L : List Exch} (h : GoodX L) (i : Nat) (hi : i < L.length) : (sX L i).size ≤ maxLen := by
  refine curB_size ?_
  have := h i hi
  unfold rowE at this
  cases hb : curB (sX L i) with
  | true => rfl
  | false => rw [if_pos hb] at this; omega
theorem MadeAt.tab {W0 w : World} {SB CB : Nat} {u : Value} {L : List Exch} (h : MadeAt W0 w SB CB u L) (hg : GoodX L) : TabAt w u L.length (sX L) (fX L) (rX L) := tab_of_row h.row hg.size

def usd : ByteArray := ⟨#[85, 83, 68]⟩
def chf : ByteArray := ⟨#[67, 72, 70]⟩
def fixedX : List Exch := [⟨⟨#[85, 83, 68]⟩, 0, 900000⟩, ⟨⟨#[85, 83, 68]⟩, 10, 950000⟩]
theorem fixed_any (w : World) : Calls Try.prog 30 #[] w fun e w' => ∃ u, e = .returned u ∧ TabAt w' u 2 (sX fixedX) (fX fixedX) (rX fixedX) ∧ Below w.heap.size w w' := by
  have H := tab_of_row (L := fixedX) (World.ownsRow_lit (e := 25) (base := w.heap.size) (size := 3) w #[.string ⟨#[85, 83, 68]⟩, .int .i64 0, .int .i64 900000, .string ⟨#[85, 83, 68]⟩, .int .i64 10, .int .i64 950000] 2 (Nat.le_refl _) (by unfold maxLen; omega) rfl) (fun i hi => by
    have h2 : fixedX.length = 2 := rfl
    rw [h2] at hi
    obtain rfl | rfl : i = 0 ∨ i = 1 := by omega
    all_goals decide +kernel)
  have HT := Lib.hid H
  clear H
  go_enter Try.func30, Try.ntmps30
  go_wp2_with fail
  go_ret
  exact ⟨_, rfl, HT.out, (Below.refl _ _).alloc (Nat.le_refl _) _⟩
theorem awake5_values : crV (sX fixedX) (fX fixedX) (rX fixedX) 2 usd ownC 1000 9 0 = 900 ∧ crE (sX fixedX) (fX fixedX) (rX fixedX) 2 usd ownC 1000 9 0 = 0 ∧ crV (sX fixedX) (fX fixedX) (rX fixedX) 2 usd ownC 1000 10 0 = 950 ∧ crE (sX fixedX) (fX fixedX) (rX fixedX) 2 usd ownC 1000 10 0 = 0 ∧ atE (sX fixedX) (fX fixedX) (rX fixedX) 2 chf 10 = 6 := by
  refine ⟨?_, ?_, ?_, ?_, ?_⟩ <;> decide +kernel

set_option maxRecDepth 100000 in
set_option maxHeartbeats 800000 in
theorem awake5_any (w : World) : Calls Try.prog 14 #[] w fun e w' => e = .returned (.bool true) ∧ Below w.heap.size w w' := by
  have HF := Lib.hid (fun w => fixed_any w)
  obtain ⟨v1, v2, v3, v4, v5⟩ := awake5_values
  have H1 := Lib.hid (fun u w1 (h : TabAt w1 u 2 (sX fixedX) (fX fixedX) (rX fixedX)) => curConvert_any u 2 _ _ _ usd (by decide +kernel) 1000 9 0 w1 h)
  have H2 := Lib.hid (fun u w1 (h : TabAt w1 u 2 (sX fixedX) (fX fixedX) (rX fixedX)) => curConvert_any u 2 _ _ _ usd (by decide +kernel) 1000 10 0 w1 h)
  have H3 := Lib.hid (fun u w1 (h : TabAt w1 u 2 (sX fixedX) (fX fixedX) (rX fixedX)) => curAt_any u 2 _ _ _ chf (by decide +kernel) 10 w1 h)
  rw [v1, v2] at H1
  rw [v3, v4] at H2
  rw [v5] at H3
  clear v1 v2 v3 v4 v5
  generalize atV (sX fixedX) (fX fixedX) (rX fixedX) 2 chf 10 = z at *
  generalize sX fixedX = S at *
  generalize fX fixedX = F at *
  generalize rX fixedX = R at *
  go_enter Try.func14, Try.ntmps14
  go_wp2_with fail
  refine (HF.out _).mono ?_
  rintro e w1 ⟨u1, rfl, t1, b1⟩
  have hB1 := b1
  go_wp2_with fail
  refine (H1.out _ _ t1).mono ?_
  rintro e w2 ⟨rfl, b2⟩
  have hB2 := hB1.trans (b2.mono hB1.size)
  clear t1 b1 b2
  go_wp2_with fail
  refine (HF.out _).mono ?_
  rintro e w3 ⟨u3, rfl, t3, b3⟩
  have hB3 := hB2.trans (b3.mono hB2.size)
  go_wp2_with fail
  refine (H2.out _ _ t3).mono ?_
  rintro e w4 ⟨rfl, b4⟩
  have hB4 := hB3.trans (b4.mono hB3.size)
  clear t3 b3 b4
  go_wp2_with fail
  refine (HF.out _).mono ?_
  rintro e w5 ⟨u5, rfl, t5, b5⟩
  have hB5 := hB4.trans (b5.mono hB4.size)
  go_wp2_with fail
  refine (H3.out _ _ t5).mono ?_
  rintro e w6 ⟨rfl, b6⟩
  have hB6 := hB5.trans (b6.mono hB5.size)
  clear t5 b5 b6
  go_wp2_with fail
  go_ret
  exact ⟨rfl, hB6⟩
end Go.Proofs.Ytjjidbnjkhdkaaa
