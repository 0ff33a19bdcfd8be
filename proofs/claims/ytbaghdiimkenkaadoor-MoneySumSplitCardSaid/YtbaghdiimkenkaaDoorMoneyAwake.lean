/- The sanity check of layer 2's laws returns true. Condition: the library's variables hold what they were given. -/
import Derived.Test.YtbaghdiimkenkaaDoorMoneyTextCode
import Derived.Test.YtbaghdiimkenkaaDoorMoneySumCode
namespace Go.Proofs.YtbaghdiimkenkaaDoor
open Go.RowKit

theorem fmt_1205 : fmt (-1205) = [45, 49, 50, 46, 48, 53] := by
  rw [fmt_amt (by rfl)]
  show 45 :: fmtN 1205 = _
  unfold fmtN
  rw [digits_big (by decide), digits_small (by decide), digits_small (by decide), digits_small (by decide)]
  rfl
theorem fmt_0 : fmt 0 = [48, 46, 48, 48] := by
  rw [fmt_amt (by rfl)]
  show fmtN 0 = _
  unfold fmtN
  rw [digits_small (by decide)]
  rfl
theorem fmt_7 : fmt 7 = [48, 46, 48, 55] := by
  rw [fmt_amt (by rfl)]
  show fmtN 7 = _
  unfold fmtN
  rw [digits_small (by decide), digits_small (by decide)]
  rfl
theorem ps_1205 : psV [45, 49, 50, 46, 48, 53] = -1205 ∧ psE [45, 49, 50, 46, 48, 53] = 0 := by
  have h := ps_fmt (n := -1205) rfl
  rw [fmt_1205] at h
  exact h
theorem ps_000 : psE [45, 48, 46, 48, 48] = 4 := by
  rcases psE_or [45, 48, 46, 48, 48] with h | h
  · have h2 := (ps_ok h).2
    have e : psV [45, 48, 46, 48, 48] = 0 := by
      unfold psV
      split
      · decide
      · rfl
    rw [e, fmt_0] at h2
    exact absurd h2 (by decide)
  · exact h

theorem awake2_1 (w : World) : Calls Tryd.prog 15 #[.int .i64 999, .int .i64 50000, .int .i64 2] w fun e w' => e = .returned (.tuple #[.int .i64 50, .int .i64 0]) ∧ Below w.heap.size w w' := by
  have h := moneyPart_any 999 50000 2 w
  have e1 : ptV 999 50000 2 = 50 := by decide +kernel
  have e2 : ptE 999 50000 2 = 0 := by decide +kernel
  rw [e1, e2] at h
  exact h
theorem awake2_2 (w : World) (hL : Libs w) : Calls Tryd.prog 19 #[.string ⟨#[45, 49, 50, 46, 48, 53]⟩] w fun e w' => e = .returned (.tuple #[.int .i64 (-1205), .int .i64 0]) ∧ Below w.heap.size w w' := by
  have h := moneyParse_any ⟨#[45, 49, 50, 46, 48, 53]⟩ (by decide) w hL
  rw [show (⟨#[45, 49, 50, 46, 48, 53]⟩ : ByteArray).data.toList = [45, 49, 50, 46, 48, 53] from rfl, ps_1205.1, ps_1205.2] at h
  exact h
theorem awake2_3 (w : World) (hL : Libs w) : Calls Tryd.prog 19 #[.string ⟨#[45, 48, 46, 48, 48]⟩] w fun e w' => e = .returned (.tuple #[.int .i64 (psV [45, 48, 46, 48, 48]), .int .i64 4]) ∧ Below w.heap.size w w' := by
  have h := moneyParse_any ⟨#[45, 48, 46, 48, 48]⟩ (by decide) w hL
  rw [show (⟨#[45, 48, 46, 48, 48]⟩ : ByteArray).data.toList = [45, 48, 46, 48, 48] from rfl, ps_000] at h
  exact h
theorem awake2_4 (w : World) (hL : Libs w) : Calls Tryd.prog 17 #[.int .i64 7] w fun e w' => e = .returned (.string ⟨#[48, 46, 48, 55]⟩) ∧ Below w.heap.size w w' := by
  have h := moneyFormat_any 7 w hL
  rw [fmt_7] at h
  exact h

set_option maxHeartbeats 400000 in
theorem awake2_any (w : World) (hL : Libs w) : Calls Tryd.prog 11 #[] w fun e w' => e = .returned (.bool true) ∧ Below w.heap.size w w' := by
  go_enter Tryd.func11, Tryd.ntmps11
  go_wp2_with fail
  refine (awake2_1 _).mono ?_
  rintro e w1 ⟨rfl, hb1⟩
  have hz1 := hb1.size
  have hL1 := hL.keep hb1
  go_wp2_with fail
  refine (awake2_2 _ hL1).mono ?_
  rintro e w2 ⟨rfl, hb2⟩
  have hz2 := hb2.size
  have hL2 := hL1.keep hb2
  go_wp2_with fail
  refine (awake2_3 _ hL2).mono ?_
  rintro e w3 ⟨rfl, hb3⟩
  have hz3 := hb3.size
  have hL3 := hL2.keep hb3
  go_wp2_with fail
  refine (awake2_4 _ hL3).mono ?_
  rintro e w4 ⟨rfl, hb4⟩
  go_wp2_with fail
  go_ret
  exact ⟨rfl, hb1.trans ((hb2.mono hz1).trans ((hb3.mono (by omega)).trans (hb4.mono (by omega))))⟩
end Go.Proofs.YtbaghdiimkenkaaDoor
