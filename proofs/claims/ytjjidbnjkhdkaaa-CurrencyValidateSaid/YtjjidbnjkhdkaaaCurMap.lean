/- A map from currencies to the rates of a day, as the landed package currency fills it: what it holds at each key, in the reference's words. Condition: the table is valid. -/
import Derived.Test.YtjjidbnjkhdkaaaCurVal
import Derived.Test.YtjjidbnjkhdkaaaCurCross
import Derived.Maps.OwnSet
import Derived.StringKeys
namespace Go.Proofs.Ytjjidbnjkhdkaaa
open Go.RowKit Go.Maps

/-- A store into a map that a literal makes. -/
theorem wpList_insert_own {H : Type} {P : Program} (w : World) {ops : Array Oper} {rest : List Oper} {o : Oper} {a : Act} {Q : Exit → Act → World → Prop}
    (hg : o.guard = none) (m x v : Operand) (t : TypeId) (hop : o.op = Op.insert t m x v)
    (k e : TypeId) (K : Keyed P k) (ht : P.underlying t = some (.map k e)) (R : Value → Option (DataW H × List MemPlace)) (b n : Nat) (D : DataW H)
    (hm : a.eval m = .map (some b)) (hown : w.ownsMap P k R b n D) (hn : n < maxLen) (key val : Value) (kl : Lit) (hx : a.eval x = key) (hv : a.eval v = val) (hkey : keyOf P k key = some kl)
    (d : DataW H) (ps : List MemPlace) (hval : R val = some (d, ps))
    (hK : ∀ w', w'.ownsMap P k R b (n + 1) (D.put kl d) → w.grownBy w' (some b) → wpList P ops Q rest (a.put o.dst undef) w') :
    wpList P ops Q (o :: rest) a w := by
  refine wpList_plain hg fun K' hK' => ?_
  obtain ⟨w', hrun, r1, r2⟩ := hown.update K ht hn hkey hval
  unfold Oper.wp
  simp [execOp, hop, hm, hx, hv, hrun, Result.andThen]
  exact hK' _ _ (hK w' r1 r2)

theorem keysS : Keyed Try.prog 9 := string_keyed (by kernel_rfl)
theorem undM : Try.prog.underlying 57 = some (.map 9 3) := by kernel_rfl
theorem undI : Try.prog.underlying 3 = some (.int .i64) := by kernel_rfl
theorem zeroI (w : World) : (zeroValue 3).run Try.prog w = .ok (.int .i64 0) w := by kernel_rfl

/-- What a currency reads as, among a map's keys. -/
def rateK (c : ByteArray) : Lit := .string c.toList
theorem keyS (c : ByteArray) (h : c.size ≤ maxLen) : keyOf Try.prog 9 (.string c) = some (rateK c) := by
  unfold rateK
  rw [Lib.toList_data]
  exact WideMaps.keyOf_string_mk (by kernel_rfl) h
theorem rateK_ne {c d : ByteArray} (h : (c.toList == d.toList) = false) : rateK d ≠ rateK c := by
  intro e
  have e : d.toList = c.toList := by simpa [rateK] using e
  rw [beq_eq_false_iff_ne] at h
  exact h e.symm
theorem rateK_key (c : ByteArray) : WideAt.IsKeyLit (rateK c) := by simp [rateK, WideAt.IsKeyLit]

/-- The map behind n rows. -/
def ratesD (S : Nat → ByteArray) (F R : Nat → Int) (day : Int) : Nat → DataW Unit
  | 0 => (DataW.map []).put (rateK ⟨#[69, 85, 82]⟩) (.lit (.int .i64 1000000))
  | n + 1 => if decide (F n ≤ day) = true then (ratesD S F R day n).put (rateK (S n)) (.lit (.int .i64 (R n))) else ratesD S F R day n
theorem rates_map (S : Nat → ByteArray) (F R : Nat → Int) (day : Int) : ∀ n, IsMap (ratesD S F R day n)
  | 0 => isMap_empty.put _ _
  | n + 1 => by
    show IsMap (if decide (F n ≤ day) = true then _ else _)
    split
    · exact (rates_map S F R day n).put _ _
    · exact rates_map S F R day n
theorem rates_own {S : Nat → ByteArray} {F R : Nat → Int} {day : Int} : ∀ {n : Nat}, (∀ i, i < n → ((S i).toList == [69, 85, 82]) = false) →
    has (ratesD S F R day n) (rateK ⟨#[69, 85, 82]⟩) = true ∧ ∀ z, (ratesD S F R day n).atKey (rateK ⟨#[69, 85, 82]⟩) z = .lit (.int .i64 1000000)
  | 0, _ => ⟨has_put_same isMap_empty (rateK_key _) _, fun z => atKey_put_same isMap_empty (rateK_key _) _ z⟩
  | n + 1, h => by
    obtain ⟨i1, i2⟩ := rates_own (n := n) (S := S) (F := F) (R := R) (day := day) (fun i hi => h i (by omega))
    have hne : rateK ⟨#[69, 85, 82]⟩ ≠ rateK (S n) := rateK_ne (d := ⟨#[69, 85, 82]⟩) (by
      rw [show (ByteArray.toList ⟨#[69, 85, 82]⟩) = [69, 85, 82] from by decide +kernel]
      exact h n (by omega))
    show has (if decide (F n ≤ day) = true then (ratesD S F R day n).put (rateK (S n)) (.lit (.int .i64 (R n))) else ratesD S F R day n) _ = true ∧
      ∀ z, (if decide (F n ≤ day) = true then (ratesD S F R day n).put (rateK (S n)) (.lit (.int .i64 (R n))) else ratesD S F R day n).atKey _ z = _
    split
    · exact ⟨(has_put_other hne _).trans i1, fun z => (atKey_put_other hne _ z).trans (i2 z)⟩
    · exact ⟨i1, i2⟩
theorem rates_other {S : Nat → ByteArray} {F R : Nat → Int} {day : Int} {c : ByteArray} (hc : (c.toList == [69, 85, 82]) = false) : ∀ {n : Nat}, (∀ i, i < n → 1 ≤ R i) →
    has (ratesD S F R day n) (rateK c) = decide (lastR S F R c day n ≠ 0) ∧ (lastR S F R c day n ≠ 0 → ∀ z, (ratesD S F R day n).atKey (rateK c) z = .lit (.int .i64 (lastR S F R c day n)))
  | 0, _ => by
    have hne : rateK c ≠ rateK ⟨#[69, 85, 82]⟩ := fun e => rateK_ne (c := c) (d := ⟨#[69, 85, 82]⟩) (by
      rw [show (ByteArray.toList ⟨#[69, 85, 82]⟩) = [69, 85, 82] from by decide +kernel]
      exact hc) e.symm
    exact ⟨(has_put_other hne _).trans rfl, fun h => absurd rfl h⟩
  | n + 1, h => by
    obtain ⟨i1, i2⟩ := rates_other hc (n := n) (S := S) (F := F) (R := R) (day := day) (fun i hi => h i (by omega))
    show has (if decide (F n ≤ day) = true then (ratesD S F R day n).put (rateK (S n)) (.lit (.int .i64 (R n))) else ratesD S F R day n) _ = decide ((if ((S n).toList == c.toList && decide (F n ≤ day)) = true then R n else lastR S F R c day n) ≠ 0) ∧
      ((if ((S n).toList == c.toList && decide (F n ≤ day)) = true then R n else lastR S F R c day n) ≠ 0 → ∀ z, (if decide (F n ≤ day) = true then (ratesD S F R day n).put (rateK (S n)) (.lit (.int .i64 (R n))) else ratesD S F R day n).atKey _ z = .lit (.int .i64 (if ((S n).toList == c.toList && decide (F n ≤ day)) = true then R n else lastR S F R c day n)))
    cases hF : decide (F n ≤ day) with
    | false =>
      rw [Bool.and_false]
      exact ⟨i1, i2⟩
    | true =>
      rw [Bool.and_true, if_pos rfl]
      cases hE : ((S n).toList == c.toList) with
      | false =>
        have hne : rateK c ≠ rateK (S n) := rateK_ne hE
        exact ⟨(has_put_other hne _).trans i1, fun h0 z => (atKey_put_other hne _ z).trans (i2 h0 z)⟩
      | true =>
        have hk : rateK c = rateK (S n) := by
          rw [beq_iff_eq] at hE
          unfold rateK
          rw [hE]
        have hR := h n (by omega)
        rw [hk, if_pos rfl]
        exact ⟨(has_put_same (rates_map S F R day n) (rateK_key _) _).trans (decide_eq_true (by omega)).symm, fun _ z => atKey_put_same (rates_map S F R day n) (rateK_key _) _ z⟩

theorem tabE_zero {S : Nat → ByteArray} {F R : Nat → Int} {n : Nat} (h : tabE S F R n = 0) : n ≤ 1000 ∧ tabF S F R n = 0 := by
  unfold tabE at h
  split at h
  · omega
  · exact ⟨by omega, h⟩
theorem rowE_own {S : Nat → ByteArray} {F R : Nat → Int} {i : Nat} (h : rowE S F R i = 0) : ((S i).toList == [69, 85, 82]) = false := by
  unfold rowE at h
  split at h
  · omega
  · rename_i h1
    cases hE : ((S i).toList == [69, 85, 82]) with
    | false => rfl
    | true => exact absurd (by unfold curB; rw [hE]; simp) h1
/-- What the map of a valid table says of a currency, in At's words. -/
theorem rates_at {S : Nat → ByteArray} {F R : Nat → Int} {n : Nat} {day : Int} (ht : tabE S F R n = 0) (hd : dayB day = true) (c : ByteArray) :
    has (ratesD S F R day n) (rateK c) = decide (atE S F R n c day = 0) ∧ (atE S F R n c day = 0 → ∀ z, (ratesD S F R day n).atKey (rateK c) z = .lit (.int .i64 (atV S F R n c day))) ∧
      (atE S F R n c day ≠ 0 → atE S F R n c day = 6 ∧ atV S F R n c day = 0) := by
  obtain ⟨_, hF⟩ := tabE_zero ht
  have hrow := tabF_rows hF
  have e1 : atE S F R n c day = if (c.toList == [69, 85, 82]) = true then 0 else if lastR S F R c day n = 0 then 6 else 0 := (if_neg (by simpa using ht)).trans (if_neg (by rw [hd]; simp))
  have e2 : atV S F R n c day = if (c.toList == [69, 85, 82]) = true then 1000000 else lastR S F R c day n := (if_neg (by simpa using ht)).trans (if_neg (by rw [hd]; simp))
  rw [e1, e2]
  cases hc : (c.toList == [69, 85, 82]) with
  | true =>
    have hk : rateK c = rateK ⟨#[69, 85, 82]⟩ := by
      rw [beq_iff_eq] at hc
      unfold rateK
      rw [hc, show (ByteArray.toList ⟨#[69, 85, 82]⟩) = [69, 85, 82] from by decide +kernel]
    obtain ⟨i1, i2⟩ := rates_own (n := n) (S := S) (F := F) (R := R) (day := day) (fun i hi => rowE_own (hrow i hi))
    rw [hk]
    exact ⟨i1, fun _ z => i2 z, fun h => absurd rfl h⟩
  | false =>
    obtain ⟨i1, i2⟩ := rates_other hc (n := n) (S := S) (F := F) (R := R) (day := day) (fun i hi => (rowE_rate (hrow i hi)).1)
    simp only [Bool.false_eq_true, if_false]
    by_cases h0 : lastR S F R c day n = 0
    · rw [i1, h0]
      exact ⟨by simp, fun h => absurd h (by simp), fun _ => ⟨rfl, rfl⟩⟩
    · rw [i1]
      exact ⟨by simp [h0], fun _ z => i2 h0 z, fun h => absurd (if_neg h0) h⟩
end Go.Proofs.Ytjjidbnjkhdkaaa
