/- What the library's stable sort does to the numbers 0 .. n - 1, under the package apportion's comparison. Condition: the list is the call's own. -/
import Derived.Test.YtnjegnmkabnkkaaSortMerge2
import Derived.Test.YtnjegnmkabnkkaaSortRuns
namespace Go.Proofs.Ytnjegnmkabnkkaa
open Go.RowKit

/-- What the sort is to do. -/
def SortDone (W0 w1 : World) (BO n : Nat) (r : Nat → Nat) : Prop := ∃ g, Moved 0 n (fun i => i) g ∧ SortedOn r g 0 n ∧ SortAt W0 w1 BO n g
/-- The sort in the midst of a pass. -/
structure PassAt (W0 w : World) (BO n : Nat) (r : Nat → Nat) (bs a big : Nat) (g : Nat → Nat) : Prop where
  runs : Runs r g n bs a big
  moved : Moved 0 n (fun i => i) g
  row : SortAt W0 w BO n g
theorem PassAt.step {W0 w w1 : World} {BO n : Nat} {r : Nat → Nat} {bs a big b c : Nat} {g g1 : Nat → Nat} (h : PassAt W0 w BO n r bs a big g) (hp : 0 < big) (hc : big = bs * c) (hd : big ∣ a) (hb1 : b ≤ n) (hb : b = a + big ∨ (b = n ∧ n ≤ a + big))
    (hm : Moved a b g g1) (hs : SortedOn r g1 a b) (hr : SortAt W0 w1 BO n g1) : PassAt W0 w1 BO n r bs (a + big) big g1 :=
  ⟨h.runs.step hp hc hd hb1 hb hm hs, h.moved.trans (hm.mono (Nat.zero_le _) hb1), hr⟩

set_option maxRecDepth 100000 in
set_option maxHeartbeats 3200000 in
theorem stable_any {W0 : World} {C BR BO n cap : Nat} {r : Nat → Nat} (S : SortSeat W0 C BR BO n cap r) (cp : Nat) (w : World) (h : SortAt W0 w BO n (fun i => i)) :
    Calls Try.prog 42 #[.slice (some ⟨BO, 0, none⟩) n cp, .int .i64 n, .func (.func 34) #[] #[.pointer (some ⟨C, 0, none⟩)]] w fun e w1 =>
      e = .returned (.tuple #[]) ∧ SortDone W0 w1 BO n r := by
  have few := S.few
  have HI := Lib.hid (fun (f : Nat → Nat) (a b : Nat) (hab : a ≤ b) (hb : b ≤ n) (hf : ∀ i j, a ≤ i → i < j → j < b → f i < f j) (w : World) (h : SortAt W0 w BO n f) => insertion_any S f a b cp hab hb hf w h)
  have HM := Lib.hid (fun (f : Nat → Nat) (a m b : Nat) (w : World) (h1 : a < m) (h2 : m < b) (h3 : b ≤ n) (h4 : Halves r f a m b) (h5 : SortAt W0 w BO n f) => symMerge_any S cp (b - a + 1) f a m b w (Nat.lt_succ_self _) h1 h2 h3 h4 h5)
  have H0 := Lib.hid (show PassAt W0 w BO n r 1 0 20 (fun i => i) from ⟨(Even.one r n).start 20, Moved.refl _ _ _, h⟩)
  clear S h
  go_enter Try.func42, Try.ntmps42
  go_wp2_with fail
  go_loopw [7, 8] (fun va vb wr => ∃ (a : Nat) (g : Nat → Nat), va = .int .i64 a ∧ vb = .int .i64 ((a : Int) + 20) ∧ a ≤ n ∧ Hid (20 ∣ a) ∧ Hid (PassAt W0 wr BO n r 1 a 20 g)) (fun va _ _ => n - (intOf va).toNat)
  case atStart => exact ⟨0, _, by go_num, by go_num, Nat.zero_le _, Lib.hid (Nat.dvd_zero 20), H0⟩
  case round =>
    obtain ⟨a, g, rfl, rfl, han, hd, hP⟩ := hrel
    have hf : ∀ b, b ≤ n → ∀ i j, a ≤ i → i < j → j < b → g i < g j := fun b hb i j h1 h2 h3 => by
      have e1 := hP.out.runs.highVals i (by omega) h1
      have e2 := hP.out.runs.highVals j (by omega) (by omega)
      rw [Nat.div_one, Nat.div_one] at e1 e2
      omega
    by_cases hlt : a + 20 ≤ n
    · have d1 : decide ((a : Int) + 20 ≤ (n : Int)) = true := decide_eq_true (by omega)
      have HC := HI.out g a (a + 20) (by omega) hlt (hf _ hlt) _ hP.out.row
      rw [show ((a + 20 : Nat) : Int) = (a : Int) + 20 by omega] at HC
      have HC2 := Lib.hid HC
      clear hf HC H0 HM
      go_wp2_with fail
      refine HC2.out.mono ?_
      rintro x w1 ⟨rfl, g1, m1, s1, A1⟩
      have HN := Lib.hid (hP.out.step (c := 20) (by omega) rfl hd.out hlt (.inl rfl) m1 s1 A1)
      have HD := Lib.hid (Nat.dvd_add hd.out (Nat.dvd_refl 20))
      clear m1 s1 A1 hP HC2 hd
      go_wp2_with fail
      go_roundw
      case rel => exact ⟨a + 20, g1, by go_num, by go_num, hlt, HD, HN⟩
      case measure => simp [intOf]; omega
    · have d1 : decide ((a : Int) + 20 ≤ (n : Int)) = false := decide_eq_false (by omega)
      have HC2 := Lib.hid (HI.out g a n han (Nat.le_refl n) (hf _ (Nat.le_refl n)) _ hP.out.row)
      clear hf H0 HI
      go_wp2_with fail
      refine HC2.out.mono ?_
      rintro x w1 ⟨rfl, g1, m1, s1, A1⟩
      have HN := hP.out.step (c := 20) (by omega) rfl hd.out (Nat.le_refl n) (.inr ⟨rfl, by omega⟩) m1 s1 A1
      have HE := Lib.hid (HN.runs.done (by omega))
      have HMv := Lib.hid HN.moved
      have HA := Lib.hid A1
      clear m1 s1 A1 hP HC2 hd HN
      go_wp2_with fail
      go_loopw [6] (fun vs wr => ∃ (bs : Nat) (g : Nat → Nat), vs = .int .i64 bs ∧ 20 ≤ bs ∧ bs ≤ 4000 ∧ Hid (Even r g n bs) ∧ Hid (Moved 0 n (fun i => i) g) ∧ Hid (SortAt W0 wr BO n g)) (fun vs _ => n - (intOf vs).toNat)
      case atStart => exact ⟨20, g1, by go_num, by omega, by omega, HE, HMv, HA⟩
      case round =>
        clear HE HMv HA
        obtain ⟨bs, g, rfl, hb1, hb2, hE, hMv, hA⟩ := hrel
        by_cases hlt : bs < n
        · have d1 : decide (bs < n) = true := decide_eq_true hlt
          have H1 := Lib.hid (show PassAt W0 wr BO n r bs 0 (2 * bs) g from ⟨hE.out.start _, hMv.out, hA.out⟩)
          clear hE hMv hA
          go_wp2_with fail
          go_loopw [7, 8] (fun va vb wx => ∃ (a : Nat) (g : Nat → Nat), va = .int .i64 a ∧ vb = .int .i64 ((a : Int) + 2 * (bs : Int)) ∧ a ≤ n ∧ Hid (2 * bs ∣ a) ∧ Hid (PassAt W0 wx BO n r bs a (2 * bs) g)) (fun va _ _ => n - (intOf va).toNat)
          case atStart => exact ⟨0, g, by go_num, by go_num, Nat.zero_le _, Lib.hid (Nat.dvd_zero _), H1⟩
          case round =>
            clear H1
            obtain ⟨a, g, rfl, rfl, han, hd, hP⟩ := hrel
            have hdb : bs ∣ a := Nat.dvd_trans (Nat.dvd_mul_left bs 2) hd.out
            by_cases hl2 : a + 2 * bs ≤ n
            · have d2 : decide ((a : Int) + 2 * (bs : Int) ≤ (n : Int)) = true := decide_eq_true (by omega)
              have HC := HM.out g a (a + bs) (a + 2 * bs) _ (by omega) (by omega) hl2 (hP.out.runs.halves (by omega) hdb hl2 (by omega) (by omega)) hP.out.row
              rw [show ((a + bs : Nat) : Int) = (a : Int) + (bs : Int) by omega, show ((a + 2 * bs : Nat) : Int) = (a : Int) + 2 * (bs : Int) by omega] at HC
              have HC2 := Lib.hid HC
              clear HC hdb HM
              go_wp2_with fail
              refine HC2.out.mono ?_
              rintro x w1 ⟨rfl, g1, m1, s1, A1⟩
              have HN := Lib.hid (hP.out.step (c := 2) (by omega) (Nat.mul_comm 2 bs) hd.out hl2 (.inl rfl) m1 s1 A1)
              have HD := Lib.hid (Nat.dvd_add hd.out (Nat.dvd_refl (2 * bs)))
              clear m1 s1 A1 hP HC2 hd
              go_wp2_with fail
              go_roundw
              case rel => exact ⟨a + 2 * bs, g1, by go_num, by go_num, hl2, HD, HN⟩
              case measure => simp [intOf]; omega
            · have d2 : decide ((a : Int) + 2 * (bs : Int) ≤ (n : Int)) = false := decide_eq_false (by omega)
              by_cases hl3 : a + bs < n
              · have d3 : decide ((a : Int) + (bs : Int) < (n : Int)) = true := decide_eq_true (by omega)
                have HC := HM.out g a (a + bs) n _ (by omega) (by omega) (Nat.le_refl n) (hP.out.runs.halves (by omega) hdb (Nat.le_refl n) (by omega) (by omega)) hP.out.row
                rw [show ((a + bs : Nat) : Int) = (a : Int) + (bs : Int) by omega] at HC
                have HC2 := Lib.hid HC
                clear HC hdb HM
                go_wp2_with fail
                refine HC2.out.mono ?_
                rintro x w1 ⟨rfl, g1, m1, s1, A1⟩
                have HN := hP.out.step (c := 2) (by omega) (Nat.mul_comm 2 bs) hd.out (Nat.le_refl n) (.inr ⟨rfl, by omega⟩) m1 s1 A1
                have HE := Lib.hid (HN.runs.done (by omega))
                have HMv := Lib.hid HN.moved
                have HA := Lib.hid A1
                clear m1 s1 A1 hP HC2 hd HN
                go_wp2_with fail
                go_roundw
                case rel => exact ⟨2 * bs, g1, by go_num, by omega, by omega, HE, HMv, HA⟩
                case measure => simp [intOf]; omega
              · have d3 : decide ((a : Int) + (bs : Int) < (n : Int)) = false := decide_eq_false (by omega)
                have HN := hP.out.step (c := 2) (by omega) (Nat.mul_comm 2 bs) hd.out (Nat.le_refl n) (.inr ⟨rfl, by omega⟩) (Moved.refl _ _ _) (hP.out.runs.short hdb (by omega)) hP.out.row
                have HE := Lib.hid (HN.runs.done (by omega))
                have HMv := Lib.hid HN.moved
                have HA := Lib.hid HN.row
                clear hdb HM hP hd HN
                go_wp2_with fail
                go_roundw
                case rel => exact ⟨2 * bs, g, by go_num, by omega, by omega, HE, HMv, HA⟩
                case measure => simp [intOf]; omega
        · have d1 : decide (bs < n) = false := decide_eq_false hlt
          go_wp2_with fail
          go_end0
          exact ⟨rfl, g, hMv.out, hE.out.whole (by omega), hA.out⟩
end Go.Proofs.Ytnjegnmkabnkkaa
