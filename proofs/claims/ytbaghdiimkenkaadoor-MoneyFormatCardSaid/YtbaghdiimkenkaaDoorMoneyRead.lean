/- Plain facts: the text of an amount without its point is read as the number of its cents; whoever reads a text so and writes the number again finds Parse's answer. No condition. -/
import Derived.Test.YtbaghdiimkenkaaDoorMoneyPlain
import Derived.Lib.Replace
import Derived.Lib.AtoiTie
namespace Go.Proofs.YtbaghdiimkenkaaDoor
open Go.RowKit

theorem point_at (p q : List UInt8) (hp : ∀ b ∈ p, b ≠ 46) : Lib.index (p ++ 46 :: q) [46] = (p.length : Int) := by
  refine Lib.index_first (i := p.length) (by simp) ?_ ?_
  · simp [Lib.occAt]
  · intro j hj
    have e : (p ++ 46 :: q).drop j = p[j] :: (p ++ 46 :: q).drop (j + 1) := by
      rw [List.drop_eq_getElem_cons (by simp; omega), List.getElem_append_left hj]
    unfold Lib.occAt
    rw [e]
    have := hp _ (List.getElem_mem hj)
    simp [List.isPrefixOf]
    exact fun h => this h.symm
theorem replace_point (p q : List UInt8) (hp : ∀ b ∈ p, b ≠ 46) : Lib.replace (p ++ 46 :: q) [46] [] 1 = p ++ q := by
  have hi := point_at p q hp
  have hc := Lib.count_hit (by simp) hi
  have hn : Lib.replaceNum (p ++ 46 :: q) [46] 1 = 1 := by
    unfold Lib.replaceNum
    rw [if_neg (by omega)]
    rfl
  unfold Lib.replace
  rw [if_neg (by decide), hn, Lib.replaceK_hit _ _ 0 _ _ hi]
  show List.take p.length _ ++ [] ++ List.drop (p.length + 1) _ = _
  simp
theorem decFrom_append : ∀ (l r : List UInt8) (a b : Nat), Lib.decFrom a l = some b → Lib.decFrom a (l ++ r) = Lib.decFrom b r
  | [], r, a, b, h => by
    have : a = b := by simpa [Lib.decFrom] using h
    rw [this]; rfl
  | c :: l, r, a, b, h => by
    simp only [Lib.decFrom, List.cons_append] at h ⊢
    split at h
    · exact decFrom_append l r _ b h
    · exact absurd h (by simp)
theorem decFrom_digit (a d : Nat) (hd : d < 10) (r : List UInt8) : Lib.decFrom a (UInt8.ofNat (48 + d) :: r) = Lib.decFrom (a * 10 + d) r := by
  have e := digit_toNat d hd
  have h : Lib.digitVal (UInt8.ofNat (48 + d)) = some d := by
    unfold Lib.digitVal
    rw [e, if_pos (by omega)]
    congr 1
    omega
  simp only [Lib.decFrom, h]
theorem decFrom_digits : ∀ x : Nat, Lib.decFrom 0 (Lib.decDigits x) = some x := by
  intro x
  induction x using Nat.strongRecOn with
  | _ x ih =>
    by_cases h : x < 10
    · rw [digits_small h, decFrom_digit _ _ h]
      simp [Lib.decFrom]
    · rw [digits_big h, decFrom_append _ _ _ _ (ih (x / 10) (by omega)), decFrom_digit _ _ (by omega)]
      simp only [Lib.decFrom, Option.some.injEq]
      omega
theorem digits_range : ∀ (x : Nat) (b : UInt8), b ∈ Lib.decDigits x → 48 ≤ b.toNat ∧ b.toNat ≤ 57 := by
  intro x
  induction x using Nat.strongRecOn with
  | _ x ih =>
    intro b hb
    by_cases h : x < 10
    · rw [digits_small h, List.mem_singleton] at hb
      rw [hb, digit_toNat _ h]
      omega
    · rw [digits_big h, List.mem_append] at hb
      rcases hb with hb | hb
      · exact ih (x / 10) (by omega) b hb
      · rw [List.mem_singleton] at hb
        rw [hb, digit_toNat _ (by omega)]
        omega
theorem digits_ne (x : Nat) : Lib.decDigits x ≠ [] := by
  by_cases h : x < 10
  · rw [digits_small h]; simp
  · rw [digits_big h]; simp
/-- The cents of an amount, read. -/
theorem cents_read (k : Nat) : Lib.decNat (Lib.decDigits (k / 100) ++ (Lib.decDigits (k / 10 % 10) ++ Lib.decDigits (k % 10))) = some k := by
  have hne : (Lib.decDigits (k / 100) ++ (Lib.decDigits (k / 10 % 10) ++ Lib.decDigits (k % 10))).isEmpty = false := by
    rw [List.isEmpty_eq_false_iff]
    simp [digits_ne]
  unfold Lib.decNat
  rw [hne, decFrom_append _ _ _ _ (decFrom_digits (k / 100)), digits_small (show k / 10 % 10 < 10 by omega), digits_small (show k % 10 < 10 by omega)]
  show (if false = true then _ else Lib.decFrom _ (UInt8.ofNat (48 + k / 10 % 10) :: [UInt8.ofNat (48 + k % 10)])) = _
  rw [if_neg (by simp), decFrom_digit _ _ (by omega), decFrom_digit _ _ (by omega)]
  simp only [Lib.decFrom, Option.some.injEq]
  omega
theorem atoi_minus (r : List UInt8) (k : Nat) (h : Lib.decNat r = some k) : Lib.atoi (45 :: r) = some (-(k : Int)) := by
  have e : ((45 : UInt8) == 45) = true := by decide
  simp only [Lib.atoi, e, h, if_true]
  rfl
theorem atoi_plain (l : List UInt8) (k : Nat) (h : Lib.decNat l = some k) (hl : l ≠ []) (h0 : ∀ b ∈ l, 48 ≤ b.toNat ∧ b.toNat ≤ 57) : Lib.atoi l = some (k : Int) := by
  cases l with
  | nil => exact absurd rfl hl
  | cons b r =>
    have hb := h0 b (List.mem_cons_self ..)
    have e1 : (b == 45) = false := by
      rw [beq_eq_false_iff_ne]
      rintro rfl
      exact absurd hb.1 (by decide)
    have e2 : (b == 43) = false := by
      rw [beq_eq_false_iff_ne]
      rintro rfl
      exact absurd hb.1 (by decide)
    simp only [Lib.atoi, e1, e2, h]
    rfl

/-- A text without its first point, read as a number. -/
def readN (l : List UInt8) : Lib.NumEnd Int := Lib.atoiAll (Lib.replace l [46] [] 1)
theorem no_point (x : Nat) (b : UInt8) (hb : b ∈ Lib.decDigits x) : b ≠ 46 := by
  rintro rfl
  exact absurd (digits_range x 46 hb).1 (by decide)
theorem read_fmt {n : Int} (h : amtB n = true) : readN (fmt n) = .ok n := by
  obtain ⟨h1, h2⟩ := (amtB_iff n).1 h
  have hl := fmtN_short n.natAbs (by omega)
  have hr := cents_read n.natAbs
  unfold readN
  rw [fmt_amt h]
  by_cases hs : n < 0
  · rw [if_pos hs]
    have e : (45 :: fmtN n.natAbs : List UInt8) = (45 :: Lib.decDigits (n.natAbs / 100)) ++ 46 :: (Lib.decDigits (n.natAbs / 10 % 10) ++ Lib.decDigits (n.natAbs % 10)) := rfl
    rw [e, replace_point _ _ (fun b hb => by
      rcases List.mem_cons.1 hb with rfl | hb
      · decide
      · exact no_point _ _ hb)]
    have hlen : (Lib.decDigits (n.natAbs / 100) ++ (Lib.decDigits (n.natAbs / 10 % 10) ++ Lib.decDigits (n.natAbs % 10))).length ≤ 17 := by
      unfold fmtN at hl
      simp at hl ⊢
      omega
    show Lib.atoiAll (45 :: (Lib.decDigits (n.natAbs / 100) ++ (Lib.decDigits (n.natAbs / 10 % 10) ++ Lib.decDigits (n.natAbs % 10)))) = _
    rw [Lib.atoiAll_short _ (by simp at hlen ⊢; omega), atoi_minus _ _ hr]
    show Lib.NumEnd.ok _ = _
    congr 1
    omega
  · rw [if_neg hs]
    have e : fmtN n.natAbs = Lib.decDigits (n.natAbs / 100) ++ 46 :: (Lib.decDigits (n.natAbs / 10 % 10) ++ Lib.decDigits (n.natAbs % 10)) := rfl
    rw [e, replace_point _ _ (fun b hb => no_point _ _ hb)]
    have hlen : (Lib.decDigits (n.natAbs / 100) ++ (Lib.decDigits (n.natAbs / 10 % 10) ++ Lib.decDigits (n.natAbs % 10))).length ≤ 17 := by
      unfold fmtN at hl
      simp at hl ⊢
      omega
    rw [Lib.atoiAll_short _ (by omega), atoi_plain _ _ hr (by simp [digits_ne]) (fun b hb => by
      rcases List.mem_append.1 hb with hb | hb
      · exact digits_range _ _ hb
      · rcases List.mem_append.1 hb with hb | hb
        · exact digits_range _ _ hb
        · exact digits_range _ _ hb)]
    show Lib.NumEnd.ok _ = _
    congr 1
    omega
theorem read_nil (v : Int) : readN [] ≠ .ok v := by
  have h : (match readN [] with
    | .ok _ => true
    | _ => false) = false := by decide +kernel
  intro h2
  rw [h2] at h
  exact absurd h (by simp)
/-- The text of the number that was read is the text: then it is the amount. -/
theorem code_ok {l : List UInt8} {v : Int} (h : readN l = .ok v) (hf : fmt v = l) : psV l = v ∧ psE l = 0 := by
  have ha : amtB v = true := by
    cases hb : amtB v with
    | true => rfl
    | false =>
      have e : fmt v = [] := if_pos hb
      rw [e] at hf
      rw [← hf] at h
      exact absurd h (read_nil v)
  have := ps_fmt ha
  rw [hf] at this
  exact this
/-- Else there is no amount. -/
theorem code_no {l : List UInt8} (h : ∀ v, readN l = .ok v → fmt v ≠ l) : psV l = 0 ∧ psE l = 4 := by
  refine ps_bad fun h0 => ?_
  obtain ⟨h1, h2⟩ := ps_ok h0
  have := read_fmt h1
  rw [h2] at this
  exact h _ this h2
end Go.Proofs.YtbaghdiimkenkaaDoor
