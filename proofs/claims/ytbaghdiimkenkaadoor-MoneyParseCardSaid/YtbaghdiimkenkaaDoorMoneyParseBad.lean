/- The law MoneyParse, walked, where the text with one byte replaced is no amount's. The other text may be cut off at 100 bytes. -/
import Derived.Test.YtbaghdiimkenkaaDoorMoneyParseWalk
import Derived.Deep.DeepCutAuto
import Derived.Test.YtbaghdiimkenkaaDoorWide
namespace Go.Proofs.YtbaghdiimkenkaaDoor
open Go.RowKit

set_option maxHeartbeats 1000000 in
theorem moneyParse_bad (s t : ByteArray) (hs : t.size ≤ 100) (hst : s.size ≤ 100 ∧ t = s ∨ 100 < s.size ∧ t = s.extract 0 100) (n at_ : Int) (by_ : Nat) (hby : by_ < 256) (w : World) (hL : Libs w) (i : Nat) (hi : i < (fmt (amtOf n)).length) (hix : (at_.tmod ((fmt (amtOf n)).length : Int) + ((fmt (amtOf n)).length : Int)) % ((fmt (amtOf n)).length : Int) = (i : Int)) (t1 : 0 ≤ at_.tmod ((fmt (amtOf n)).length : Int) + ((fmt (amtOf n)).length : Int)) (t2 : at_.tmod ((fmt (amtOf n)).length : Int) < ((fmt (amtOf n)).length : Int)) (h0 : psE ((fmt (amtOf n)).set i (UInt8.ofNat by_)) ≠ 0) :
    Calls Tryd.prog 8 #[.string s, .int .i64 n, .int .i64 at_, .int .u8 by_] w fun e w' => e = .returned (.bool true) ∧ Below w.heap.size w w' := by
  have ha : amtB (amtOf n) = true := (amtB_iff _).2 (amtOf_bounds n)
  have hf := moneyFormat_any (amtOf n)
  have hlen := fmt_len (amtOf n)
  have hpos : 1 ≤ (fmt (amtOf n)).length := List.length_pos_iff.2 (fmt_ne ha)
  generalize fmt (amtOf n) = l at *
  have hp := moneyParse_any t (by omega)
  have hq := refParse_any t (by unfold maxLen; omega)
  generalize psV t.data.toList = u at *
  generalize psE t.data.toList = f at *
  have hl2 : (l.set i (UInt8.ofNat by_)).length = l.length := by simp
  have hp2 := moneyParse_any ⟨(l.set i (UInt8.ofNat by_)).toArray⟩ (by show (l.set i (UInt8.ofNat by_)).toArray.size ≤ _; simp; omega)
  have hq2 := refParse_any ⟨(l.set i (UInt8.ofNat by_)).toArray⟩ (by show (l.set i (UInt8.ofNat by_)).toArray.size ≤ _; unfold maxLen; simp; omega)
  rw [show (⟨(l.set i (UInt8.ofNat by_)).toArray⟩ : ByteArray).data.toList = l.set i (UInt8.ofNat by_) from rfl] at hp2 hq2
  have HL2 := Lib.hid hl2
  have H0 := Lib.hid h0
  clear h0
  clear hl2
  have HF := Lib.hid hf
  have HP := Lib.hid hp
  have HQ := Lib.hid hq
  have HP2 := Lib.hid hp2
  have HQ2 := Lib.hid hq2
  clear hf hp hq hp2 hq2
  rcases hst with ⟨h1, rfl⟩ | ⟨h1, rfl⟩
  all_goals
    go_enter Tryd.func8, Tryd.ntmps8
    go_wp2_with fail
    refine (amount_any _ _).mono ?_
    rintro e w0 ⟨rfl, rfl⟩
    go_wp2_with fail
    refine (HF.out _ hL).mono ?_
    rintro e w1 ⟨rfl, hb1⟩
    have hz1 := hb1.size
    obtain ⟨C, W, hmade, hrow, hbel⟩ := bytes_made l w1
    have hz2 := hbel.size
    have hcell := (hrow.1 i hi).1
    have hfree := (hrow.1 i hi).2
    generalize w1.heap.size = B at *
    have hrow2 := hrow.set i by_ hby
    have htext := hrow2.text C
    rw [HL2.out] at htext
    have hb0 : ((l.length : Int) == 0) = false := by rw [beq_eq_false_iff_ne]; omega
    go_wp2_with fail
    have hB3 : Below w.heap.size w (W.setCell ⟨B, i, none⟩ (.int .u8 by_)) := (hb1.trans (hbel.mono hz1)).setCell hz1 _
    refine (HP2.out _ (hL.keep hB3)).mono ?_
    rintro e w4 ⟨rfl, hb4⟩
    have hB4 := hB3.trans (hb4.mono hB3.size)
    have hrow4 := hrow2.keep hb4
    have htext4 := hrow4.text C
    rw [HL2.out] at htext4
    generalize W.setCell ⟨B, i, none⟩ (.int .u8 by_) = W3 at *
    clear hmade hrow hcell hfree htext
    go_wp2_with fail
    refine (HQ2.out _).mono ?_
    rintro e w5 ⟨rfl, hb5⟩
    have hB5 := hB4.trans (hb5.mono hB4.size)
    have hrow5 := hrow4.keep hb5
    clear htext4
    go_wp2_with fail
    refine (HP.out _ (hL.keep hB5)).mono ?_
    rintro e w6 ⟨rfl, hb6⟩
    have hB6 := hB5.trans (hb6.mono hB5.size)
    have hrow6 := hrow5.keep hb6
    go_wp2_with fail
    refine (HQ.out _).mono ?_
    rintro e w7 ⟨rfl, hb7⟩
    have hB7 := hB6.trans (hb7.mono hB6.size)
    have hrow7 := hrow6.keep hb7
    have hS0 := hrow7.text C
    have h0 := H0.out
    clear HP HQ HP2 HQ2 HF hb1 hbel hb4 hb5 hb6 hb7 hrow2 hrow4 hrow5 hrow6 hrow7 hS0 hB3 hB4 hB5 hB6 hz1 hz2 HL2 hix t1 t2 hb0 H0
    generalize l.set i (UInt8.ofNat by_) = l2 at *
    generalize psV l2 = v2 at *
    generalize psE l2 = f2 at *
    have b0 : (f2 != 0) = true := by rw [bne_iff_ne]; exact h0
    clear h0
    go_wp2_with fail
    refine region_held (S := fun w' => Below w.heap.size w w') (by kernel_rfl) (by kernel_rfl) hB7.drew (fun {_} => ?_)
    repeat (go_big_quiet_step ((go_at_call 11; exact Held.call (awake2_any _ (hL.keep (Held.h _))) (fun _ h1 h2 => h1.trans (h2.mono h1.size)))))
    refine wpQuiet_nil ?_
    rintro _ ⟨x, rfl⟩
    have hx := x.h
    go_wp2_with fail
    go_ret
    exact ⟨rfl, hx⟩
end Go.Proofs.YtbaghdiimkenkaaDoor
