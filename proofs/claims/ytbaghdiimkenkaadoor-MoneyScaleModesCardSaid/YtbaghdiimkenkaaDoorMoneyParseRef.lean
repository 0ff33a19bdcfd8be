/- What Parse of the reference of layer 2 returns, for every text. Condition: the text is no longer than a text can be. -/
import Derived.Test.YtbaghdiimkenkaaDoorMoneyTextRef
namespace Go.Proofs.YtbaghdiimkenkaaDoor
open Go.RowKit

/-- One byte read: the number so far, and whether a minus sign was met. -/
def scanStep (st : Nat × Bool) (c : UInt8) : Nat × Bool :=
  if c.toNat = 45 then (st.1, true) else if 48 ≤ c.toNat ∧ c.toNat ≤ 57 ∧ st.1 ≤ 1000000000000 then (10 * st.1 + (c.toNat - 48), st.2) else st
def scan (l : List UInt8) : Nat × Bool := l.foldl scanStep (0, false)
theorem scan_snoc (l : List UInt8) (c : UInt8) : scan (l ++ [c]) = scanStep (scan l) c := by simp [scan]
theorem step_le (st : Nat × Bool) (c : UInt8) (h : st.1 ≤ 10000000000009) : (scanStep st c).1 ≤ 10000000000009 := by
  unfold scanStep
  split
  · exact h
  · split
    · show 10 * st.1 + (c.toNat - 48) ≤ 10000000000009
      omega
    · exact h
theorem scan_le (l : List UInt8) : (scan l).1 ≤ 10000000000009 := by
  have : ∀ (l : List UInt8) (st : Nat × Bool), st.1 ≤ 10000000000009 → (l.foldl scanStep st).1 ≤ 10000000000009 := by
    intro l
    induction l with
    | nil => intro st h; exact h
    | cons c r ih => intro st h; exact ih _ (step_le st c h)
  exact this l (0, false) (by omega)
def sgn (b : Bool) : Int := if b then -1 else 1
/-- The number that a text gives. -/
def scanN (l : List UInt8) : Int := sgn (scan (l.take 20)).2 * ((scan (l.take 20)).1 : Int)
def psOk (l : List UInt8) : Bool := !(l.isEmpty || decide (fmt (scanN l) ≠ l))
/-- What Parse returns. -/
def psV (l : List UInt8) : Int := if psOk l then scanN l else 0
def psE (l : List UInt8) : Int := if psOk l then 0 else 4

theorem step_minus (st : Nat × Bool) (c : UInt8) (h : c.toNat = 45) : scanStep st c = (st.1, true) := if_pos h
theorem step_digit (st : Nat × Bool) (c : UInt8) (h : c.toNat ≠ 45) (h2 : 48 ≤ c.toNat ∧ c.toNat ≤ 57 ∧ st.1 ≤ 1000000000000) : scanStep st c = (10 * st.1 + (c.toNat - 48), st.2) := (if_neg h).trans (if_pos h2)
theorem step_other (st : Nat × Bool) (c : UInt8) (h : c.toNat ≠ 45) (h2 : ¬ (48 ≤ c.toNat ∧ c.toNat ≤ 57 ∧ st.1 ≤ 1000000000000)) : scanStep st c = st := (if_neg h).trans (if_neg h2)
theorem take_all (s : ByteArray) (k : Nat) (hk2 : k ≤ 20) (h : k = 20 ∨ k = s.size) : s.data.toList.take k = s.data.toList.take 20 := by
  rcases h with h | h
  · rw [h]
  · have hl : s.data.toList.length = s.size := by simp
    rw [List.take_of_length_le (by omega), List.take_of_length_le (by omega)]
theorem scanN_bounds (l : List UInt8) : -10000000000009 ≤ scanN l ∧ scanN l ≤ 10000000000009 := by
  have h := scan_le (l.take 20)
  unfold scanN sgn
  split <;> omega

theorem take_snoc (s : ByteArray) (k : Nat) (h : k < s.size) : s.data.toList.take (k + 1) = s.data.toList.take k ++ [s[k]] := by
  rw [List.take_succ_eq_append_getElem (by simpa using h)]; rfl

set_option maxHeartbeats 800000 in
theorem refParse_any (s : ByteArray) (hs : s.size ≤ maxLen) (w : World) :
    Calls Tryd.prog 20 #[.string s] w fun e w' => e = .returned (.tuple #[.int .i64 (psV s.data.toList), .int .i64 (psE s.data.toList)]) ∧ Below w.heap.size w w' := by
  unfold maxLen at hs
  go_enter Tryd.func20, Tryd.ntmps20
  go_wp2
  go_loop [4, 5, 6] (fun n g i => ∃ k : Nat, k ≤ s.size ∧ k ≤ 20 ∧ i = .int .i64 k ∧ n = .int .i64 (scan (s.data.toList.take k)).1 ∧ g = .int .i64 (sgn (scan (s.data.toList.take k)).2)) (fun _ _ i => 20 - (intOf i).toNat)
  case atStart => exact ⟨0, by omega, by omega, rfl, rfl, rfl⟩
  case round =>
    obtain ⟨k, hk, hk2, rfl, rfl, rfl⟩ := hrel
    by_cases hlt : k < s.size ∧ k < 20
    · obtain ⟨hl1, hl2⟩ := hlt
      have hts := take_snoc s k hl1
      have hsn := scan_snoc (s.data.toList.take k) s[k]
      rw [← hts] at hsn
      have hle := scan_le (s.data.toList.take k)
      have HS := Lib.hid hsn
      clear hts hsn
      generalize scan (s.data.toList.take k) = st at *
      by_cases hm : s[k].toNat = 45
      · have b1 : ((s[k].toNat : Int) == 45) = true := by rw [beq_iff_eq]; omega
        have HM := Lib.hid hm
        clear hm
        go_wp2_with fail
        go_round
        case rel => exact ⟨k + 1, by omega, by omega, by go_num, by rw [HS.out, step_minus _ _ HM.out], by rw [HS.out, step_minus _ _ HM.out]; rfl⟩
        case measure => simp [intOf]; omega
      · have b1 : ((s[k].toNat : Int) == 45) = false := by rw [beq_eq_false_iff_ne]; omega
        by_cases hd : 48 ≤ s[k].toNat ∧ s[k].toNat ≤ 57 ∧ st.1 ≤ 1000000000000
        · have HD := Lib.hid hd
          have HM := Lib.hid hm
          obtain ⟨d1, d2, d3⟩ := hd
          clear hm
          go_wp2_with fail
          go_round
          case rel => exact ⟨k + 1, by omega, by omega, by go_num, by rw [HS.out, step_digit _ _ HM.out HD.out]; exact int_eq (by omega), by rw [HS.out, step_digit _ _ HM.out HD.out]⟩
          case measure => simp [intOf]; omega
        · have HD := Lib.hid hd
          have HM := Lib.hid hm
          clear hm hd
          go_wp2_with fail
          all_goals
            first
              | (exfalso; have := HD.out; omega)
              | (go_round
                 case rel => exact ⟨k + 1, by omega, by omega, by go_num, by rw [HS.out, step_other _ _ HM.out HD.out], by rw [HS.out, step_other _ _ HM.out HD.out]⟩
                 case measure => simp [intOf]; omega)
    · have hta := take_all s k hk2 (by omega)
      rw [hta]
      have hw : sgn (scan (s.data.toList.take 20)).2 * ((scan (s.data.toList.take 20)).1 : Int) = scanN s.data.toList := rfl
      obtain ⟨x1, x2⟩ := scanN_bounds s.data.toList
      have hf := refFormat_any (scanN s.data.toList)
      generalize (scan (s.data.toList.take 20)).1 = n1 at *
      generalize sgn (scan (s.data.toList.take 20)).2 = n2 at *
      clear hta
      have hw2 : wrap64 (n2 * (n1 : Int)) = scanN s.data.toList := by rw [hw]; exact IntWalk.wrap64_in _ ⟨by omega, by omega⟩
      clear hw
      have HF := Lib.hid hf
      clear hf
      have hge : k < s.size → 20 ≤ k := by omega
      by_cases hem : s.data.toList = []
      · have hne : s.toList = [] := by rw [ByteArray.toList_eq, hem]
        have hz : s.size = 0 := by
          have h := congrArg List.length hem
          simpa using h
        have hps : psV s.data.toList = 0 ∧ psE s.data.toList = 4 := by
          unfold psV psE psOk
          rw [hem]
          exact ⟨rfl, rfl⟩
        have HP := Lib.hid hps
        have hk0 : ¬ k < s.size := by omega
        clear hlt hge hem hps hz
        go_wp2_with fail
        go_ret2
        exact ⟨by rw [HP.out.1, HP.out.2]; rfl, Below.refl _ _⟩
      · have hne : s.toList.isEmpty = false := by
          rw [ByteArray.toList_eq]
          cases hq : s.data.toList with
          | nil => exact absurd hq hem
          | cons _ _ => rfl
        have hne2 : ¬ s.toList = [] := by
          rw [ByteArray.toList_eq]
          exact hem
        by_cases hq : fmt (scanN s.data.toList) = s.data.toList
        · have hcmp : (fmt (scanN s.data.toList) == s.toList) = true := by rw [ByteArray.toList_eq, beq_iff_eq]; exact hq
          have hps : psV s.data.toList = scanN s.data.toList ∧ psE s.data.toList = 0 := by
            have h : psOk s.data.toList = true := by
              unfold psOk
              rw [List.isEmpty_eq_false_iff.2 hem, decide_eq_false (fun h => h hq)]
              rfl
            unfold psV psE
            rw [h]
            exact ⟨rfl, rfl⟩
          have HP := Lib.hid hps
          clear hps hq hem
          by_cases hl1 : k < s.size
          · have hl2 := hge hl1
            clear hlt hge
            go_wp2_with fail
            refine (HF.out _).mono ?_
            rintro e w1 ⟨rfl, hb1⟩
            go_wp2_with fail
            go_ret2
            exact ⟨by rw [HP.out.1, HP.out.2, ← hw2]; rfl, hb1⟩
          · clear hlt hge
            go_wp2_with fail
            refine (HF.out _).mono ?_
            rintro e w1 ⟨rfl, hb1⟩
            go_wp2_with fail
            go_ret2
            exact ⟨by rw [HP.out.1, HP.out.2, ← hw2]; rfl, hb1⟩
        · have hcmp : (fmt (scanN s.data.toList) == s.toList) = false := by rw [ByteArray.toList_eq, beq_eq_false_iff_ne]; exact hq
          have hps : psV s.data.toList = 0 ∧ psE s.data.toList = 4 := by
            have h : psOk s.data.toList = false := by
              unfold psOk
              rw [decide_eq_true hq]
              simp
            unfold psV psE
            rw [h]
            exact ⟨rfl, rfl⟩
          have HP := Lib.hid hps
          clear hps hq hem
          by_cases hl1 : k < s.size
          · have hl2 := hge hl1
            clear hlt hge
            go_wp2_with fail
            refine (HF.out _).mono ?_
            rintro e w1 ⟨rfl, hb1⟩
            go_wp2_with fail
            go_ret2
            exact ⟨by rw [HP.out.1, HP.out.2]; rfl, hb1⟩
          · clear hlt hge
            go_wp2_with fail
            refine (HF.out _).mono ?_
            rintro e w1 ⟨rfl, hb1⟩
            go_wp2_with fail
            go_ret2
            exact ⟨by rw [HP.out.1, HP.out.2]; rfl, hb1⟩
end Go.Proofs.YtbaghdiimkenkaaDoor
