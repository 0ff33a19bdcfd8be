/- Plain facts on the texts of amounts: a text is read as it was written, and each text is that of one amount at most. No condition. -/
import Derived.Test.YtbaghdiimkenkaaDoorMoneyParseRef
namespace Go.Proofs.YtbaghdiimkenkaaDoor
open Go.RowKit

theorem digits_le (m : Nat) : ∀ x : Nat, 1 ≤ m → x < 10 ^ m → (Lib.decDigits x).length ≤ m := by
  induction m with
  | zero => intro x h; omega
  | succ m ih =>
    intro x _ hx
    by_cases h : x < 10
    · rw [digits_small h]; simp
    · rw [digits_big h, List.length_append]
      have hm : 1 ≤ m := by
        rcases Nat.eq_zero_or_pos m with z | z
        · rw [z] at hx; simp at hx; omega
        · exact z
      have := ih (x / 10) hm (by rw [Nat.pow_succ] at hx; omega)
      simp
      omega

theorem digit_toNat (d : Nat) (hd : d < 10) : (UInt8.ofNat (48 + d)).toNat = 48 + d := by
  rw [UInt8.toNat_ofNat']; omega
theorem scan_digit (st : Nat × Bool) (d : Nat) (hd : d < 10) (hs : st.1 ≤ 1000000000000) : scanStep st (UInt8.ofNat (48 + d)) = (10 * st.1 + d, st.2) := by
  have e := digit_toNat d hd
  rw [step_digit st _ (by omega) ⟨by omega, by omega, hs⟩, e]
  congr 1
  omega
theorem scan_digits (b : Bool) : ∀ x : Nat, x ≤ 10000000000009 → (Lib.decDigits x).foldl scanStep (0, b) = (x, b) := by
  intro x
  induction x using Nat.strongRecOn with
  | _ x ih =>
    intro hx
    by_cases h : x < 10
    · rw [digits_small h]
      show scanStep (0, b) _ = _
      rw [scan_digit _ _ h (by simp)]
      simp
    · rw [digits_big h, List.foldl_append, ih (x / 10) (by omega) (by omega)]
      show scanStep (x / 10, b) _ = _
      rw [scan_digit _ _ (by omega) (by simp; omega)]
      simp
      omega
theorem one_digit (d : Nat) (hd : d < 10) : Lib.decDigits d = [UInt8.ofNat (48 + d)] := digits_small hd
theorem scan_fmtN (b : Bool) (k : Nat) (hk : k ≤ 1000000000000) : (fmtN k).foldl scanStep (0, b) = (k, b) := by
  unfold fmtN
  rw [List.foldl_append, scan_digits b (k / 100) (by omega), one_digit (k / 10 % 10) (by omega), one_digit (k % 10) (by omega)]
  show scanStep (scanStep (scanStep (k / 100, b) 46) _) _ = _
  rw [step_other (k / 100, b) 46 (by decide) (by
    intro h
    exact absurd h.1 (by decide))]
  have e1 := scan_digit (k / 100, b) (k / 10 % 10) (by omega) (show k / 100 ≤ 1000000000000 by omega)
  have e2 := scan_digit (10 * (k / 100) + k / 10 % 10, b) (k % 10) (by omega) (show 10 * (k / 100) + k / 10 % 10 ≤ 1000000000000 by omega)
  have e3 : 10 * (10 * (k / 100) + k / 10 % 10) + k % 10 = k := by omega
  rw [e1, e2]
  simp only [e3]
theorem fmtN_short (k : Nat) (hk : k ≤ 1000000000000) : (fmtN k).length ≤ 14 := by
  unfold fmtN
  have h := digits_le 11 (k / 100) (by omega) (by omega)
  rw [one_digit (k / 10 % 10) (by omega), one_digit (k % 10) (by omega)]
  simp
  omega
theorem fmt_amt {n : Int} (h : amtB n = true) : fmt n = if n < 0 then 45 :: fmtN n.natAbs else fmtN n.natAbs := if_neg (by rw [h]; simp)
theorem fmt_len (n : Int) : (fmt n).length ≤ 15 := by
  cases h : amtB n with
  | false =>
    have e : fmt n = [] := if_pos h
    rw [e]; simp
  | true =>
    obtain ⟨h1, h2⟩ := (amtB_iff n).1 h
    rw [fmt_amt h]
    have := fmtN_short n.natAbs (by omega)
    split
    · simp; omega
    · omega
/-- What is written is read. -/
theorem scanN_fmt {n : Int} (h : amtB n = true) : scanN (fmt n) = n := by
  have hl := fmt_len n
  obtain ⟨h1, h2⟩ := (amtB_iff n).1 h
  have ht : (fmt n).take 20 = fmt n := List.take_of_length_le (by omega)
  unfold scanN
  rw [ht, fmt_amt h]
  by_cases hs : n < 0
  · rw [if_pos hs]
    have e : scan (45 :: fmtN n.natAbs) = (n.natAbs, true) := by
      show (fmtN n.natAbs).foldl scanStep (scanStep (0, false) 45) = _
      rw [step_minus _ _ (by decide), scan_fmtN true _ (by omega)]
    rw [e]
    simp [sgn]
    omega
  · rw [if_neg hs]
    have e : scan (fmtN n.natAbs) = (n.natAbs, false) := scan_fmtN false _ (by omega)
    rw [e]
    simp [sgn]
    omega
theorem fmt_ne {n : Int} (h : amtB n = true) : fmt n ≠ [] := by
  rw [fmt_amt h]
  unfold fmtN
  split <;> simp
theorem ps_fmt {n : Int} (h : amtB n = true) : psV (fmt n) = n ∧ psE (fmt n) = 0 := by
  have e : psOk (fmt n) = true := by
    unfold psOk
    rw [scanN_fmt h, List.isEmpty_eq_false_iff.2 (fmt_ne h), decide_eq_false (by simp)]
    rfl
  unfold psV psE
  rw [e, scanN_fmt h]
  exact ⟨rfl, rfl⟩
theorem ps_nil : psV [] = 0 ∧ psE [] = 4 := ⟨rfl, rfl⟩
/-- What is accepted is the text of the amount. -/
theorem ps_ok {l : List UInt8} (h : psE l = 0) : amtB (psV l) = true ∧ fmt (psV l) = l := by
  have e : psOk l = true := by
    cases hb : psOk l with
    | true => rfl
    | false => unfold psE at h; rw [hb] at h; simp at h
  have ev : psV l = scanN l := by unfold psV; rw [e]; rfl
  unfold psOk at e
  simp at e
  rw [ev]
  refine ⟨?_, e.2⟩
  cases hb : amtB (scanN l) with
  | true => rfl
  | false =>
    have e2 : fmt (scanN l) = [] := if_pos hb
    rw [e2] at e
    exact absurd e.2.symm (by simpa using e.1)
theorem psE_or (l : List UInt8) : psE l = 0 ∨ psE l = 4 := by
  unfold psE; split <;> simp
theorem ps_bad {l : List UInt8} (h : psE l ≠ 0) : psV l = 0 ∧ psE l = 4 := by
  cases hb : psOk l with
  | true => exact absurd (by unfold psE; rw [hb]; rfl) h
  | false => unfold psV psE; rw [hb]; exact ⟨rfl, rfl⟩
/-- Whoever finds the one amount of a text, or shows that there is none, has Parse's answer. -/
theorem ps_unique {l : List UInt8} {v e : Int} (h : (e = 0 ∧ amtB v = true ∧ fmt v = l) ∨ (e = 4 ∧ v = 0 ∧ ∀ n, amtB n = true → fmt n ≠ l)) : v = psV l ∧ e = psE l := by
  rcases h with ⟨he, ha, hf⟩ | ⟨he, hv, hn⟩
  · have := ps_fmt ha
    rw [hf] at this
    exact ⟨this.1.symm, he.trans this.2.symm⟩
  · have hb : psE l ≠ 0 := fun h0 => hn _ (ps_ok h0).1 (ps_ok h0).2
    exact ⟨hv.trans (ps_bad hb).1.symm, he.trans (ps_bad hb).2.symm⟩
end Go.Proofs.YtbaghdiimkenkaaDoor
