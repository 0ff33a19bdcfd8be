/- What the functions Format and Parse of the package money return, wherever the library's variables hold what they were given. Condition of Parse: a text of at most a million bytes. -/
import Derived.Test.YtbaghdiimkenkaaDoorMoneyScaleCode
import Derived.Test.YtbaghdiimkenkaaDoorLibCalls
import Derived.Test.YtbaghdiimkenkaaDoorMoneyRead
import Derived.Test.YtbaghdiimkenkaaDoorWide
import Derived.Deep.RegionHeld3
namespace Go.Proofs.YtbaghdiimkenkaaDoor
open Go.RowKit

set_option maxHeartbeats 800000 in
theorem moneyFormat_pos (k : Nat) (hk : k ≤ 1000000000000) (w : World) (hL : Libs w) :
    Calls Tryd.prog 17 #[.int .i64 k] w fun e w' => e = .returned (.string ⟨(fmtN k).toArray⟩) ∧ Below w.heap.size w w' := by
  have ha : amtB k = true := (amtB_iff k).2 (by omega)
  have hL1 := hL.alloc (.cells #[.int .i64 (k : Int)] 3)
  have hB1 : Below w.heap.size w (w.alloc (.cells #[.int .i64 (k : Int)] 3)) := (Below.refl _ _).alloc (Nat.le_refl _) _
  have i1 := itoa_any (k / 100) (by omega)
  have i2 := itoa_any (k / 10 % 10) (by omega)
  have i3 := itoa_any (k % 10) (by omega)
  rw [show ((k / 100 : Nat) : Int) = (k : Int) / 100 by omega] at i1
  rw [show ((k / 10 % 10 : Nat) : Int) = (k : Int) % 100 / 10 by omega] at i2
  rw [show ((k % 10 : Nat) : Int) = (k : Int) % 10 by omega] at i3
  have l1 : (Lib.decDigits (k / 100)).length ≤ 10000000001 := by have := digits_len (k / 100); omega
  have l2 : (Lib.decDigits (k / 10 % 10)).length ≤ 10 := by have := digits_len (k / 10 % 10); omega
  have l3 : (Lib.decDigits (k % 10)).length ≤ 10 := by have := digits_len (k % 10); omega
  have hf : fmtN k = Lib.decDigits (k / 100) ++ 46 :: (Lib.decDigits (k / 10 % 10) ++ Lib.decDigits (k % 10)) := rfl
  generalize fmtN k = F at *
  generalize Lib.decDigits (k / 100) = A at *
  generalize Lib.decDigits (k / 10 % 10) = B at *
  generalize Lib.decDigits (k % 10) = C at *
  have I1 := Lib.hid i1
  have I2 := Lib.hid i2
  have I3 := Lib.hid i3
  have HF := Lib.hid hf
  clear i1 i2 i3 hf
  go_enter Tryd.func17, Tryd.ntmps17
  go_wp2_with fail
  refine (areAmounts_one k _ _ (by simp [go_sem])).mono ?_
  rintro e w1 ⟨rfl, rfl⟩
  generalize w.alloc (.cells #[.int .i64 (k : Int)] 3) = W1 at *
  go_wp2_with fail
  refine (I1.out _ hL1).mono ?_
  rintro e w2 ⟨rfl, hb2⟩
  have hL2 := hL1.keep hb2
  have hB2 := hB1.trans (hb2.mono hB1.size)
  clear hb2
  go_wp2_with fail
  refine (I2.out _ hL2).mono ?_
  rintro e w3 ⟨rfl, hb3⟩
  have hL3 := hL2.keep hb3
  have hB3 := hB2.trans (hb3.mono hB2.size)
  clear hb3
  go_wp2_with fail
  refine (I3.out _ hL3).mono ?_
  rintro e w4 ⟨rfl, hb4⟩
  have hB4 := hB3.trans (hb4.mono hB3.size)
  clear hb4
  go_wp2_with fail
  go_ret
  refine ⟨congrArg (fun s => Ending.returned (.string s)) ?_, hB4⟩
  rw [HF.out]
  apply ByteArray.ext
  simp

set_option maxHeartbeats 800000 in
theorem moneyFormat_neg (k : Nat) (hk : k ≤ 1000000000000) (h1 : 1 ≤ k) (w : World) (hL : Libs w) :
    Calls Tryd.prog 17 #[.int .i64 (-(k : Int))] w fun e w' => e = .returned (.string ⟨(45 :: fmtN k).toArray⟩) ∧ Below w.heap.size w w' := by
  have ha : amtB (-(k : Int)) = true := (amtB_iff _).2 (by omega)
  have hL1 := hL.alloc (.cells #[.int .i64 (-(k : Int))] 3)
  have hB1 : Below w.heap.size w (w.alloc (.cells #[.int .i64 (-(k : Int))] 3)) := (Below.refl _ _).alloc (Nat.le_refl _) _
  have i1 := itoa_any (k / 100) (by omega)
  have i2 := itoa_any (k / 10 % 10) (by omega)
  have i3 := itoa_any (k % 10) (by omega)
  rw [show ((k / 100 : Nat) : Int) = (k : Int) / 100 by omega] at i1
  rw [show ((k / 10 % 10 : Nat) : Int) = (k : Int) % 100 / 10 by omega] at i2
  rw [show ((k % 10 : Nat) : Int) = (k : Int) % 10 by omega] at i3
  have l1 : (Lib.decDigits (k / 100)).length ≤ 10000000001 := by have := digits_len (k / 100); omega
  have l2 : (Lib.decDigits (k / 10 % 10)).length ≤ 10 := by have := digits_len (k / 10 % 10); omega
  have l3 : (Lib.decDigits (k % 10)).length ≤ 10 := by have := digits_len (k % 10); omega
  have hf : fmtN k = Lib.decDigits (k / 100) ++ 46 :: (Lib.decDigits (k / 10 % 10) ++ Lib.decDigits (k % 10)) := rfl
  generalize fmtN k = F at *
  generalize Lib.decDigits (k / 100) = A at *
  generalize Lib.decDigits (k / 10 % 10) = B at *
  generalize Lib.decDigits (k % 10) = C at *
  have I1 := Lib.hid i1
  have I2 := Lib.hid i2
  have I3 := Lib.hid i3
  have HF := Lib.hid hf
  clear i1 i2 i3 hf
  go_enter Tryd.func17, Tryd.ntmps17
  go_wp2_with fail
  refine (areAmounts_one (-(k : Int)) _ _ (by simp [go_sem])).mono ?_
  rintro e w1 ⟨rfl, rfl⟩
  generalize w.alloc (.cells #[.int .i64 (-(k : Int))] 3) = W1 at *
  go_wp2_with fail
  refine (I1.out _ hL1).mono ?_
  rintro e w2 ⟨rfl, hb2⟩
  have hL2 := hL1.keep hb2
  have hB2 := hB1.trans (hb2.mono hB1.size)
  clear hb2
  go_wp2_with fail
  refine (I2.out _ hL2).mono ?_
  rintro e w3 ⟨rfl, hb3⟩
  have hL3 := hL2.keep hb3
  have hB3 := hB2.trans (hb3.mono hB2.size)
  clear hb3
  go_wp2_with fail
  refine (I3.out _ hL3).mono ?_
  rintro e w4 ⟨rfl, hb4⟩
  have hB4 := hB3.trans (hb4.mono hB3.size)
  clear hb4
  go_wp2_with fail
  go_ret
  refine ⟨congrArg (fun s => Ending.returned (.string s)) ?_, hB4⟩
  rw [HF.out]
  apply ByteArray.ext
  simp

set_option maxHeartbeats 800000 in
theorem moneyFormat_none (n : Int) (ha : amtB n = false) (w : World) :
    Calls Tryd.prog 17 #[.int .i64 n] w fun e w' => e = .returned (.string ⟨#[]⟩) ∧ Below w.heap.size w w' := by
  go_enter Tryd.func17, Tryd.ntmps17
  go_wp2_with fail
  refine (areAmounts_one n _ _ (by simp [go_sem])).mono ?_
  rintro e w1 ⟨rfl, rfl⟩
  go_wp2_with fail
  go_ret
  exact ⟨rfl, (Below.refl _ _).alloc (Nat.le_refl _) _⟩

/-- Format returns the text of the amount, or none. -/
theorem moneyFormat_any (n : Int) (w : World) (hL : Libs w) :
    Calls Tryd.prog 17 #[.int .i64 n] w fun e w' => e = .returned (.string ⟨(fmt n).toArray⟩) ∧ Below w.heap.size w w' := by
  cases ha : amtB n with
  | false =>
    have e : fmt n = [] := if_pos ha
    rw [e]
    exact moneyFormat_none n ha w
  | true =>
    obtain ⟨h1, h2⟩ := (amtB_iff n).1 ha
    rw [fmt_amt ha]
    by_cases hs : n < 0
    · rw [if_pos hs]
      have h := moneyFormat_neg n.natAbs (by omega) (by omega) w hL
      rw [show -(n.natAbs : Int) = n by omega] at h
      exact h
    · rw [if_neg hs]
      have h := moneyFormat_pos n.natAbs (by omega) w hL
      rw [show (n.natAbs : Int) = n by omega] at h
      exact h

theorem replaceK_len (old : List UInt8) : ∀ (k : Nat) (s : List UInt8), (Lib.replaceK old [] k s).length ≤ s.length
  | 0, s => Nat.le_refl _
  | k + 1, s => by
    unfold Lib.replaceK
    split
    · exact Nat.le_refl _
    · have h := replaceK_len old k (s.drop ((Lib.index s old).toNat + old.length))
      simp at h ⊢
      omega
theorem replace_len (old s : List UInt8) (n : Int) : (Lib.replace s old [] n).length ≤ s.length := by
  unfold Lib.replace
  split
  · exact Nat.le_refl _
  · exact replaceK_len _ _ _

set_option maxHeartbeats 1600000 in
/-- Parse returns the amount of the text, or ErrSyntax. -/
theorem moneyParse_list (s : List UInt8) (hs : s.length ≤ 1000000) (w : World) (hL : Libs w) :
    Calls Tryd.prog 19 #[.string ⟨s.toArray⟩] w fun e w' => e = .returned (.tuple #[.int .i64 (psV s), .int .i64 (psE s)]) ∧ Below w.heap.size w w' := by
  have hR := replace_any s [46] [] hs (by decide) (by decide) 1
  have hlen : (Lib.replace s [46] [] 1).length ≤ 1000000 := Nat.le_trans (replace_len _ _ _) hs
  have hno := code_no (l := s)
  have hok := fun v => code_ok (l := s) (v := v)
  unfold readN at hno hok
  generalize Lib.replace s [46] [] 1 = r at *
  have HR := Lib.hid hR
  by_cases hv : ∃ v, Lib.atoiAll r = .ok v
  · obtain ⟨v, hv⟩ := hv
    have hA := atoi_ok r hlen v hv
    have hF := moneyFormat_any v
    by_cases hf : fmt v = s
    · obtain ⟨e1, e2⟩ := hok v hv hf
      rw [e1, e2]
      rw [hf] at hF
      have HA := Lib.hid hA
      have HF := Lib.hid hF
      clear hA hF hR hok hno hf e1 e2 hv
      go_enter Tryd.func19, Tryd.ntmps19
      go_wp2_with fail
      refine (HR.out _ hL).mono ?_
      rintro e w1 ⟨rfl, hb1⟩
      have hL1 := hL.keep hb1
      go_wp2_with fail
      refine (HA.out _).mono ?_
      rintro e w2 ⟨rfl, hb2⟩
      have hL2 := hL1.keep hb2
      have hB2 := hb1.trans (hb2.mono hb1.size)
      clear hb1 hb2
      go_wp2_with fail
      refine (HF.out _ hL2).mono ?_
      rintro e w3 ⟨rfl, hb3⟩
      have hB3 := hB2.trans (hb3.mono hB2.size)
      clear hb3
      go_wp2_with fail
      go_ret2
      exact ⟨rfl, hB3⟩
    · obtain ⟨e1, e2⟩ := hno (fun u hu => by
        rw [hv] at hu
        cases hu
        exact hf)
      rw [e1, e2]
      generalize fmt v = t at *
      have c1 : (t == s) = false := by rw [beq_eq_false_iff_ne]; exact hf
      have HA := Lib.hid hA
      have HF := Lib.hid hF
      clear hA hF hR hok hno e1 e2 hv
      go_enter Tryd.func19, Tryd.ntmps19
      go_wp2_with fail
      refine (HR.out _ hL).mono ?_
      rintro e w1 ⟨rfl, hb1⟩
      have hL1 := hL.keep hb1
      go_wp2_with fail
      refine (HA.out _).mono ?_
      rintro e w2 ⟨rfl, hb2⟩
      have hL2 := hL1.keep hb2
      have hB2 := hb1.trans (hb2.mono hb1.size)
      clear hb1 hb2
      go_wp2_with fail
      refine (HF.out _ hL2).mono ?_
      rintro e w3 ⟨rfl, hb3⟩
      have hB3 := hB2.trans (hb3.mono hB2.size)
      clear hb3
      go_wp2_with fail
      go_ret2
      exact ⟨rfl, hB3⟩
  · obtain ⟨e1, e2⟩ := hno (fun u hu => absurd ⟨u, hu⟩ hv)
    rw [e1, e2]
    have HA := Lib.hid (atoi_no r hlen (fun u hu => hv ⟨u, hu⟩))
    clear hR hok hno e1 e2 hv
    go_enter Tryd.func19, Tryd.ntmps19
    go_wp2_with fail
    refine (HR.out _ hL).mono ?_
    rintro e w1 ⟨rfl, hb1⟩
    have hL1 := hL.keep hb1
    go_wp2_with fail
    refine (HA.out _ hL1).mono ?_
    rintro e w2 ⟨v, N, rfl, hb2⟩
    have hB2 := hb1.trans (hb2.mono hb1.size)
    clear hb1 hb2
    go_wp2_with fail
    go_ret2
    exact ⟨rfl, hB2⟩

theorem moneyParse_any (s : ByteArray) (hs : s.size ≤ 1000000) (w : World) (hL : Libs w) :
    Calls Tryd.prog 19 #[.string s] w fun e w' => e = .returned (.tuple #[.int .i64 (psV s.data.toList), .int .i64 (psE s.data.toList)]) ∧ Below w.heap.size w w' :=
  moneyParse_list s.data.toList (by rw [← Lib.size_eq]; exact hs) w hL
end Go.Proofs.YtbaghdiimkenkaaDoor
