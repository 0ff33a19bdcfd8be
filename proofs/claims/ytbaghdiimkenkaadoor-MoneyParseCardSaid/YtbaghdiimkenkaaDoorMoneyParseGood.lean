/- The law MoneyParse, walked, where the text with one byte replaced is an amount's. The other text may be cut off at 100 bytes. -/
import Derived.Test.YtbaghdiimkenkaaDoorMoneyParseWalk
import Derived.Deep.DeepCutAuto
namespace Go.Proofs.YtbaghdiimkenkaaDoor
open Go.RowKit

theorem libs_in {w w1 : World} {b C : Nat} {l : List UInt8} (hL : Libs w) (h : (convert 41 9 (.slice (some ⟨b, 0, none⟩) l.length C)).run Tryd.prog w1 = .ok (.string ⟨l.toArray⟩) w1 ∧ Row w1 b l ∧ Below w.heap.size w w1) : Libs w1 := hL.keep h.2.2

set_option maxRecDepth 100000 in
set_option maxHeartbeats 1000000 in
theorem moneyParse_good (s t : ByteArray) (hs : t.size ≤ 100) (hst : s.size ≤ 100 ∧ t = s ∨ 100 < s.size ∧ t = s.extract 0 100) (n at_ : Int) (by_ : Nat) (hby : by_ < 256) (w : World) (hL : Libs w) (i : Nat) (hi : i < (fmt (amtOf n)).length) (hix : (at_.tmod ((fmt (amtOf n)).length : Int) + ((fmt (amtOf n)).length : Int)) % ((fmt (amtOf n)).length : Int) = (i : Int)) (t1 : 0 ≤ at_.tmod ((fmt (amtOf n)).length : Int) + ((fmt (amtOf n)).length : Int)) (t2 : at_.tmod ((fmt (amtOf n)).length : Int) < ((fmt (amtOf n)).length : Int)) (h0 : psE ((fmt (amtOf n)).set i (UInt8.ofNat by_)) = 0) :
    Calls Tryd.prog 8 #[.string s, .int .i64 n, .int .i64 at_, .int .u8 by_] w fun e w' => e = .returned (.bool true) ∧ Below w.heap.size w w' := by
  have ha : amtB (amtOf n) = true := (amtB_iff _).2 (amtOf_bounds n)
  have hf := moneyFormat_any (amtOf n)
  have hlen := fmt_len (amtOf n)
  have hpos : 1 ≤ (fmt (amtOf n)).length := List.length_pos_iff.2 (fmt_ne ha)
  generalize fmt (amtOf n) = l at *
  have hp := moneyParse_any t (by omega)
  have hq := refParse_any t (by unfold maxLen; omega)
  generalize psV t.data.toList = u at *
  generalize psE t.data.toList = f at *
  have hl2 : (l.set i (UInt8.ofNat by_)).length = l.length := by simp
  have hp2 := moneyParse_any ⟨(l.set i (UInt8.ofNat by_)).toArray⟩ (by show (l.set i (UInt8.ofNat by_)).toArray.size ≤ _; simp; omega)
  have hq2 := refParse_any ⟨(l.set i (UInt8.ofNat by_)).toArray⟩ (by show (l.set i (UInt8.ofNat by_)).toArray.size ≤ _; unfold maxLen; simp; omega)
  rw [show (⟨(l.set i (UInt8.ofNat by_)).toArray⟩ : ByteArray).data.toList = l.set i (UInt8.ofNat by_) from rfl] at hp2 hq2
  have HL2 := Lib.hid hl2
  have H0 := Lib.hid h0
  clear h0
  clear hl2
  have HF := Lib.hid hf
  have HP := Lib.hid hp
  have HQ := Lib.hid hq
  have HP2 := Lib.hid hp2
  have HQ2 := Lib.hid hq2
  clear hf hp hq hp2 hq2
  rcases hst with ⟨h1, rfl⟩ | ⟨h1, rfl⟩
  all_goals
    go_enter Tryd.func8, Tryd.ntmps8
    go_wp2_with fail
    refine (amount_any _ _).mono ?_
    rintro e w0 ⟨rfl, rfl⟩
    go_wp2_with fail
    refine (HF.out _ hL).mono ?_
    rintro e w1 ⟨rfl, hb1⟩
    have hz1 := hb1.size
    obtain ⟨C, W, hmade, hrow, hbel⟩ := bytes_made l w1
    have hz2 := hbel.size
    have hcell := (hrow.1 i hi).1
    have hfree := (hrow.1 i hi).2
    generalize w1.heap.size = B at *
    have hrow2 := hrow.set i by_ hby
    have htext := hrow2.text C
    rw [HL2.out] at htext
    have hb0 : ((l.length : Int) == 0) = false := by rw [beq_eq_false_iff_ne]; omega
    go_wp2_with fail
    have hB3 : Below w.heap.size w (W.setCell ⟨B, i, none⟩ (.int .u8 by_)) := (hb1.trans (hbel.mono hz1)).setCell hz1 _
    refine (HP2.out _ (hL.keep hB3)).mono ?_
    rintro e w4 ⟨rfl, hb4⟩
    have hB4 := hB3.trans (hb4.mono hB3.size)
    have hrow4 := hrow2.keep hb4
    have htext4 := hrow4.text C
    rw [HL2.out] at htext4
    generalize W.setCell ⟨B, i, none⟩ (.int .u8 by_) = W3 at *
    clear hmade hrow hcell hfree htext
    go_wp2_with fail
    refine (HQ2.out _).mono ?_
    rintro e w5 ⟨rfl, hb5⟩
    have hB5 := hB4.trans (hb5.mono hB4.size)
    have hrow5 := hrow4.keep hb5
    clear htext4
    go_wp2_with fail
    refine (HP.out _ (hL.keep hB5)).mono ?_
    rintro e w6 ⟨rfl, hb6⟩
    have hB6 := hB5.trans (hb6.mono hB5.size)
    have hrow6 := hrow5.keep hb6
    go_wp2_with fail
    refine (HQ.out _).mono ?_
    rintro e w7 ⟨rfl, hb7⟩
    have hB7 := hB6.trans (hb7.mono hB6.size)
    have hrow7 := hrow6.keep hb7
    have hS0 := hrow7.text C
    have hok := fun h => (ps_ok (l := l.set i (UInt8.ofNat by_)) h).2
    have hfm := moneyFormat_any (psV (l.set i (UInt8.ofNat by_)))
    have hl3 := HL2.out
    have h0 := H0.out
    clear HP HQ HP2 HQ2 HF hb1 hbel hb4 hb5 hb6 hb7 hrow2 hrow4 hrow5 hrow6 hB3 hB4 hB5 hB6 hz1 hz2 HL2 hix t1 t2 hb0 H0
    generalize l.set i (UInt8.ofNat by_) = l2 at *
    generalize psV l2 = v2 at *
    generalize psE l2 = f2 at *
    rw [← hl3]
    clear hl3
    rw [hok h0] at hfm
    have HFM := Lib.hid hfm
    have b0 : (f2 != 0) = false := by rw [h0]; rfl
    clear hfm hok h0
    go_wp2_with fail
    have hSS : (convert 41 9 (.slice (some ⟨B, 0, none⟩) l2.length C)).run Tryd.prog w7 = .ok (.string ⟨l2.toArray⟩) w7 ∧ Row w7 B l2 ∧ Below w.heap.size w w7 := ⟨hS0, hrow7, hB7⟩
    go_region_held3 (fun w' => (convert 41 9 (.slice (some ⟨B, 0, none⟩) l2.length C)).run Tryd.prog w' = .ok (.string ⟨l2.toArray⟩) w' ∧ Row w' B l2 ∧ Below w.heap.size w w')
      (first
        | exact rowS_drew (by assumption)
        | exact rowS_call (by assumption) (by assumption))
      (first
        | (go_at_call 17; refine (HFM.out _ (libs_in hL (by assumption))).mono ?_; rintro e w' ⟨rfl, hbk⟩)
        | (go_at_call 11; refine (awake2_any _ (libs_in hL (by assumption))).mono ?_; rintro e w' ⟨rfl, hbk⟩))
    all_goals
      rename_i hh
      have hL := hh.2.2
      go_wp2_with fail
      go_ret
      exact ⟨rfl, hL⟩
end Go.Proofs.YtbaghdiimkenkaaDoor
