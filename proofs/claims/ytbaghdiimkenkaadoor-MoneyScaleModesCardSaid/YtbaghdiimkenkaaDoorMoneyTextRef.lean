/- What Digits and Format of the reference of layer 2 return, for every input. Condition of Digits: the number is not negative. -/
import Derived.Test.YtbaghdiimkenkaaDoorMoneyScaleRef
import Derived.Lib.ItoaNum
namespace Go.Proofs.YtbaghdiimkenkaaDoor
open Go.RowKit

theorem digits_small {x : Nat} (h : x < 10) : Lib.decDigits x = [UInt8.ofNat (48 + x)] := Lib.decDigits_one h
theorem digits_big {x : Nat} (h : ¬ x < 10) : Lib.decDigits x = Lib.decDigits (x / 10) ++ [UInt8.ofNat (48 + x % 10)] := by
  rw [Lib.decDigits, dif_neg h]

theorem digits_len (x : Nat) : (Lib.decDigits x).length ≤ x + 1 := by
  induction x using Nat.strongRecOn with
  | _ x ih =>
    by_cases h : x < 10
    · rw [digits_small h]; simp
    · rw [digits_big h, List.length_append]
      have := ih (x / 10) (by omega)
      simp
      omega
theorem one_cons (k : Nat) (l : List UInt8) : (⟨#[48 + UInt8.ofNat (k % 10)]⟩ : ByteArray) ++ ⟨l.toArray⟩ = ⟨(UInt8.ofNat (48 + k % 10) :: l).toArray⟩ := by
  have e : 48 + UInt8.ofNat (k % 10) = UInt8.ofNat (48 + k % 10) := by rw [UInt8.ofNat_add]; rfl
  rw [e]
  apply ByteArray.ext
  simp
/-- A text of one byte, made of a slice of one byte. -/
theorem one_byte (W : World) (v : Int) : (convert 41 9 (.slice (some ⟨W.heap.size, 0, none⟩) 1 1)).run Tryd.prog (W.alloc (.cells #[.int .u8 v] 5)) =
    .ok (.string ⟨#[UInt8.ofNat v.toNat]⟩) (W.alloc (.cells #[.int .u8 v] 5)) := by
  rw [run_convert_bytes_string _ _ _ 5 _ _ _ Tryd.underlying41 Tryd.underlying5 Tryd.underlying9]
  have h := run_loadCells_list (P := Tryd.prog) (w := W.alloc (.cells #[.int .u8 v] 5)) ⟨W.heap.size, 0, none⟩ [.int .u8 v] (by
    intro j u hj
    match j with
    | 0 =>
      simp at hj
      subst hj
      simp [go_sem, Addr.add]
    | j + 1 => simp at hj)
  exact run_bytesToString _ _ 1 1 [v] h

set_option maxHeartbeats 400000 in
theorem refDigits_any (n : Nat) (hn : n ≤ 1000000000000) (w : World) :
    Calls Tryd.prog 27 #[.int .i64 n] w fun e w' => e = .returned (.string ⟨(Lib.decDigits n).toArray⟩) ∧ Below w.heap.size w w' := by
  go_enter Tryd.func27, Tryd.ntmps27
  go_wp2
  go_loopw [0, 3] (fun t s wr => ∃ (x : Nat) (l : List UInt8), t = .int .i64 x ∧ s = .string ⟨l.toArray⟩ ∧ x ≤ n ∧ Hid (Lib.decDigits n = Lib.decDigits x ++ l) ∧ Below w.heap.size w wr)
    (fun t _ _ => (intOf t).toNat)
  case atStart => exact ⟨n, [], rfl, rfl, Nat.le_refl _, Lib.hid (by simp), Below.refl _ _⟩
  case round =>
    obtain ⟨x, l, rfl, rfl, hx, hd, hB⟩ := hrel
    have hc := one_byte wr (48 + (x : Int) % 10)
    have hlen : l.length ≤ 1000000000001 := by
      have h := congrArg List.length hd.out
      rw [List.length_append] at h
      have := digits_len n
      omega
    by_cases h10 : x < 10
    · have e1 : ((x : Int) / 10 == 0) = true := by rw [beq_iff_eq]; omega
      have hfin : Hid (Lib.decDigits n = UInt8.ofNat (48 + x % 10) :: l) := Lib.hid (by rw [hd.out, digits_small h10, Nat.mod_eq_of_lt h10]; rfl)
      go_wp2_with fail
      go_ret
      refine ⟨?_, by repeat (first | exact hB | (refine Below.alloc ?_ (by first | omega | exact hB.size | (simp; done) | (simp; omega)) _))⟩
      rw [hfin.out]
      exact congrArg (fun s => Ending.returned (.string s)) (one_cons x l)
    · have e1 : ((x : Int) / 10 == 0) = false := by rw [beq_eq_false_iff_ne]; omega
      have hnext : Hid (Lib.decDigits n = Lib.decDigits (x / 10) ++ UInt8.ofNat (48 + x % 10) :: l) := Lib.hid (by rw [hd.out, digits_big h10, List.append_assoc]; rfl)
      go_wp2_with fail
      go_roundw
      case rel => exact ⟨x / 10, UInt8.ofNat (48 + x % 10) :: l, by simp, congrArg Value.string (one_cons x l), by omega, hnext, hB.alloc hB.size _⟩
      case measure => simp [intOf]; omega

/-- The text of an amount that is not negative; of any number. -/
def fmtN (k : Nat) : List UInt8 := Lib.decDigits (k / 100) ++ 46 :: (Lib.decDigits (k / 10 % 10) ++ Lib.decDigits (k % 10))
def fmt (n : Int) : List UInt8 := if amtB n = false then [] else if n < 0 then 45 :: fmtN n.natAbs else fmtN n.natAbs

theorem fmtN_len (k : Nat) (hk : k ≤ 1000000000000) : (fmtN k).length ≤ 2000000000000 := by
  unfold fmtN
  have h1 := digits_len (k / 100)
  have h2 := digits_len (k / 10 % 10)
  have h3 := digits_len (k % 10)
  simp
  omega

set_option maxHeartbeats 800000 in
theorem refFormat_pos (k : Nat) (hk : k ≤ 1000000000000) (w : World) :
    Calls Tryd.prog 18 #[.int .i64 k] w fun e w' => e = .returned (.string ⟨(fmtN k).toArray⟩) ∧ Below w.heap.size w w' := by
  have ha : amtB k = true := (amtB_iff k).2 (by omega)
  have i1 := refDigits_any (k / 100) (by omega)
  have i2 := refDigits_any (k / 10 % 10) (by omega)
  have i3 := refDigits_any (k % 10) (by omega)
  have l1 : (Lib.decDigits (k / 100)).length ≤ 10000000001 := by have := digits_len (k / 100); omega
  have l2 : (Lib.decDigits (k / 10 % 10)).length ≤ 10 := by have := digits_len (k / 10 % 10); omega
  have l3 : (Lib.decDigits (k % 10)).length ≤ 10 := by have := digits_len (k % 10); omega
  unfold fmtN
  generalize Lib.decDigits (k / 100) = a at *
  generalize Lib.decDigits (k / 10 % 10) = b at *
  generalize Lib.decDigits (k % 10) = c at *
  rw [show ((k / 100 : Nat) : Int) = (k : Int) / 100 from by simp] at i1
  rw [show ((k / 10 % 10 : Nat) : Int) = (k : Int) / 10 % 10 from by simp] at i2
  rw [show ((k % 10 : Nat) : Int) = (k : Int) % 10 from by simp] at i3
  have I1 := Lib.hid i1
  have I2 := Lib.hid i2
  have I3 := Lib.hid i3
  clear i1 i2 i3
  go_enter Tryd.func18, Tryd.ntmps18
  go_wp2_with fail
  refine (refAmount_any _ _).mono ?_
  rintro e w0 ⟨rfl, rfl⟩
  go_wp2_with fail
  refine (I1.out _).mono ?_
  rintro e w1 ⟨rfl, hb1⟩
  have hz1 := hb1.size
  go_wp2_with fail
  refine (I2.out _).mono ?_
  rintro e w2 ⟨rfl, hb2⟩
  have hz2 := hb2.size
  go_wp2_with fail
  refine (I3.out _).mono ?_
  rintro e w3 ⟨rfl, hb3⟩
  have hz3 := hb3.size
  go_wp2_with fail
  go_ret
  refine ⟨?_, by repeat (first | exact Below.refl _ _ | (refine Below.setCell ?_ (by first | omega | (simp; done) | (simp; omega)) _) | (refine below_drewN ?_ _) | (refine Below.alloc ?_ (by first | omega | (simp; done) | (simp; omega)) _) | (refine Below.trans ?_ (Below.mono (by assumption) (by first | omega | (simp; done) | (simp; omega)))))⟩
  refine congrArg (fun s => Ending.returned (.string s)) ?_
  apply ByteArray.ext
  simp

/-- A minus sign ahead of a text. -/
theorem minus_cons (l : List UInt8) : (⟨#[45]⟩ : ByteArray) ++ ⟨l.toArray⟩ = ⟨(45 :: l).toArray⟩ := by
  apply ByteArray.ext
  simp

set_option maxHeartbeats 800000 in
theorem refFormat_any (n : Int) (w : World) :
    Calls Tryd.prog 18 #[.int .i64 n] w fun e w' => e = .returned (.string ⟨(fmt n).toArray⟩) ∧ Below w.heap.size w w' := by
  by_cases ha : amtB n = false
  · have e0 : fmt n = [] := if_pos ha
    rw [e0]
    clear e0
    go_enter Tryd.func18, Tryd.ntmps18
    go_wp2_with fail
    refine (refAmount_any _ _).mono ?_
    rintro e w0 ⟨rfl, rfl⟩
    go_wp2_with fail
    go_ret
    exact ⟨rfl, Below.refl _ _⟩
  · have ha' : amtB n = true := by simpa using ha
    obtain ⟨h1, h2⟩ := (amtB_iff n).1 ha'
    by_cases hs : n < 0
    · have e0 : fmt n = 45 :: fmtN n.natAbs := (if_neg ha).trans (if_pos hs)
      have hr := refFormat_pos n.natAbs (by omega)
      have hl := fmtN_len n.natAbs (by omega)
      rw [show ((n.natAbs : Nat) : Int) = -n from by omega] at hr
      rw [e0, ← minus_cons]
      generalize fmtN n.natAbs = l at *
      have HR := Lib.hid hr
      clear hr e0 ha
      go_enter Tryd.func18, Tryd.ntmps18
      go_wp2_with fail
      refine (refAmount_any _ _).mono ?_
      rintro e w0 ⟨rfl, rfl⟩
      go_wp2_with fail
      refine (HR.out _).mono ?_
      rintro e w1 ⟨rfl, hb1⟩
      go_wp2_with fail
      go_ret
      exact ⟨rfl, hb1⟩
    · have e0 : fmt n = fmtN n.natAbs := (if_neg ha).trans (if_neg hs)
      have hr := refFormat_pos n.natAbs (by omega) w
      rw [show ((n.natAbs : Nat) : Int) = n from by omega] at hr
      rw [e0]
      exact hr
end Go.Proofs.YtbaghdiimkenkaaDoor
