/- The law MoneyFormat, walked: it returns true at every input. Condition: the library's variables hold what they were given. -/
import Derived.Test.YtbaghdiimkenkaaDoorMoneyScaleWalk
namespace Go.Proofs.YtbaghdiimkenkaaDoor
open Go.RowKit

set_option maxHeartbeats 800000 in
theorem moneyFormat_walk (n : Int) (raw : Bool) (w : World) (hL : Libs w) :
    Calls Tryd.prog 7 #[.int .i64 n, .bool raw] w fun e w' => e = .returned (.bool true) ∧ Below w.heap.size w w' := by
  cases raw with
  | true =>
    have hf := moneyFormat_any n
    have hr := refFormat_any n
    by_cases ha : amtB n = true
    · have hp := fun w => moneyParse_any ⟨(fmt n).toArray⟩ (by show (fmt n).toArray.size ≤ _; have := fmt_len n; simp; omega) w
      rw [show (⟨(fmt n).toArray⟩ : ByteArray).data.toList = fmt n from rfl, (ps_fmt ha).1, (ps_fmt ha).2] at hp
      have hne := List.isEmpty_eq_false_iff.2 (fmt_ne ha)
      generalize fmt n = l at *
      have HF := Lib.hid hf
      have HR := Lib.hid hr
      have HP := Lib.hid hp
      clear hf hr hp ha
      go_enter Tryd.func7, Tryd.ntmps7
      go_wp2_with fail
      refine (HF.out _ hL).mono ?_
      rintro e w1 ⟨rfl, hb1⟩
      have hz1 := hb1.size
      have hL1 := hL.keep hb1
      go_wp2_with fail
      refine (HR.out _).mono ?_
      rintro e w2 ⟨rfl, hb2⟩
      have hz2 := hb2.size
      have hL2 := hL1.keep hb2
      go_wp2_with fail
      refine (HP.out _ hL2).mono ?_
      rintro e w3 ⟨rfl, hb3⟩
      have hz3 := hb3.size
      have hL3 := hL2.keep hb3
      go_wp2_with fail
      refine (awake2_any _ hL3).mono ?_
      rintro e w4 ⟨rfl, hb4⟩
      have hz4 := hb4.size
      go_wp2_with fail
      go_ret
      exact ⟨rfl, hb1.trans ((hb2.mono hz1).trans ((hb3.mono (by omega)).trans (hb4.mono (by omega))))⟩
    · have e0 : fmt n = [] := if_pos (by simpa using ha)
      rw [e0] at hf hr
      have hp := fun w => moneyParse_any ⟨#[]⟩ (by decide) w
      rw [show (⟨#[]⟩ : ByteArray).data.toList = [] from rfl, ps_nil.1, ps_nil.2] at hp
      have HF := Lib.hid hf
      have HR := Lib.hid hr
      have HP := Lib.hid hp
      clear hf hr hp ha e0
      go_enter Tryd.func7, Tryd.ntmps7
      go_wp2_with fail
      refine (HF.out _ hL).mono ?_
      rintro e w1 ⟨rfl, hb1⟩
      have hz1 := hb1.size
      have hL1 := hL.keep hb1
      go_wp2_with fail
      refine (HR.out _).mono ?_
      rintro e w2 ⟨rfl, hb2⟩
      have hz2 := hb2.size
      have hL2 := hL1.keep hb2
      go_wp2_with fail
      refine (HP.out _ hL2).mono ?_
      rintro e w3 ⟨rfl, hb3⟩
      have hz3 := hb3.size
      have hL3 := hL2.keep hb3
      go_wp2_with fail
      refine (awake2_any _ hL3).mono ?_
      rintro e w4 ⟨rfl, hb4⟩
      have hz4 := hb4.size
      go_wp2_with fail
      go_ret
      exact ⟨rfl, hb1.trans ((hb2.mono hz1).trans ((hb3.mono (by omega)).trans (hb4.mono (by omega))))⟩
  | false =>
    have ha : amtB (amtOf n) = true := (amtB_iff _).2 (amtOf_bounds n)
    have hf := moneyFormat_any (amtOf n)
    have hr := refFormat_any (amtOf n)
    have hp := fun w => moneyParse_any ⟨(fmt (amtOf n)).toArray⟩ (by show (fmt (amtOf n)).toArray.size ≤ _; have := fmt_len (amtOf n); simp; omega) w
    rw [show (⟨(fmt (amtOf n)).toArray⟩ : ByteArray).data.toList = fmt (amtOf n) from rfl, (ps_fmt ha).1, (ps_fmt ha).2] at hp
    have hne := List.isEmpty_eq_false_iff.2 (fmt_ne ha)
    generalize fmt (amtOf n) = l at *
    have HF := Lib.hid hf
    have HR := Lib.hid hr
    have HP := Lib.hid hp
    clear hf hr hp ha
    go_enter Tryd.func7, Tryd.ntmps7
    go_wp2_with fail
    refine (amount_any _ _).mono ?_
    rintro e w0 ⟨rfl, rfl⟩
    go_wp2_with fail
    refine (HF.out _ hL).mono ?_
    rintro e w1 ⟨rfl, hb1⟩
    have hz1 := hb1.size
    have hL1 := hL.keep hb1
    go_wp2_with fail
    refine (HR.out _).mono ?_
    rintro e w2 ⟨rfl, hb2⟩
    have hz2 := hb2.size
    have hL2 := hL1.keep hb2
    go_wp2_with fail
    refine (HP.out _ hL2).mono ?_
    rintro e w3 ⟨rfl, hb3⟩
    have hz3 := hb3.size
    have hL3 := hL2.keep hb3
    go_wp2_with fail
    refine (awake2_any _ hL3).mono ?_
    rintro e w4 ⟨rfl, hb4⟩
    have hz4 := hb4.size
    go_wp2_with fail
    go_ret
    exact ⟨rfl, hb1.trans ((hb2.mono hz1).trans ((hb3.mono (by omega)).trans (hb4.mono (by omega))))⟩
end Go.Proofs.YtbaghdiimkenkaaDoor
