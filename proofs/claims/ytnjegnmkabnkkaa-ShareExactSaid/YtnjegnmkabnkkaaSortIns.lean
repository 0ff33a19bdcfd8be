/- What the library's insertion sort does to a list of numbers, under the package apportion's comparison. Condition: the list is the call's own. -/
import Derived.Test.YtnjegnmkabnkkaaSortCmp
import Derived.BigRegion
namespace Go.Proofs.Ytnjegnmkabnkkaa
open Go.RowKit

/-- What stands before the sort begins: the comparison's variable and the remainders lie below the list. -/
structure SortSeat (W0 : World) (C BR BO n cap : Nat) (r : Nat → Nat) : Prop where
  rests : RestsAt W0 C BR n cap r
  box : C < BO
  row : BR < BO
  few : n ≤ 1000
/-- The list as it stands in the midst of the sort. -/
structure SortAt (W0 w : World) (BO n : Nat) (f : Nat → Nat) : Prop where
  row : Ints w BO n (fun i => (f i : Int))
  below : Below BO W0 w
  vals : ∀ i, i < n → f i < n
theorem SortAt.drewN {W0 w : World} {BO n : Nat} {f : Nat → Nat} (h : SortAt W0 w BO n f) (k : Nat) : SortAt W0 (w.drewN k) BO n f :=
  ⟨h.row.keep (below_drewN (Below.refl _ _) _), below_drewN h.below _, h.vals⟩
theorem SortAt.cell {W0 w : World} {BO n : Nat} {f : Nat → Nat} (h : SortAt W0 w BO n f) (i : Nat) (hi : i < n) : w.cell? ⟨BO, i, none⟩ = some (.int .i64 (f i)) := (h.row.1 i hi).1
theorem SortAt.soft {W0 w : World} {BO n : Nat} {f : Nat → Nat} (h : SortAt W0 w BO n f) (i : Nat) (hi : i < n) : w.frozen? ⟨BO, i, none⟩ = false := (h.row.1 i hi).2
theorem SortAt.swap {W0 w : World} {BO n : Nat} {f : Nat → Nat} (h : SortAt W0 w BO n f) (p q : Nat) (hp : p < n) (hq : q < n) :
    SortAt W0 ((w.setCell ⟨BO, p, none⟩ (.int .i64 (f q))).setCell ⟨BO, q, none⟩ (.int .i64 (f p))) BO n (swpF f p q) := by
  have h1 := h.row.set p (f q : Int) (fun j => if j = p then (f q : Int) else (f j : Int)) (fun _ _ => rfl)
  have h2 := h1.set q (f p : Int) (fun j => (swpF f p q j : Int)) (fun j _ => by
    unfold swpF
    by_cases e1 : j = q
    · subst e1
      rw [if_pos rfl]
      by_cases e2 : j = p
      · subst e2; simp
      · rw [if_neg e2, if_pos rfl]
    · by_cases e2 : j = p
      · simp [e2]
        intro h
        rw [h]
      · simp [e1, e2])
  refine ⟨h2, (h.below.setCell (Nat.le_refl _) _).setCell (Nat.le_refl _) _, fun i hi => ?_⟩
  unfold swpF
  by_cases e1 : i = p
  · rw [if_pos e1]; exact h.vals _ hq
  · rw [if_neg e1]
    by_cases e2 : i = q
    · rw [if_pos e2]; exact h.vals _ hp
    · rw [if_neg e2]; exact h.vals _ hi
theorem SortAt.cell2 {W0 w : World} {BO n : Nat} {f : Nat → Nat} (h : SortAt W0 w BO n f) (p q : Nat) (hne : p ≠ q) (hq : q < n) (v : Value) : (w.setCell ⟨BO, p, none⟩ v).cell? ⟨BO, q, none⟩ = some (.int .i64 (f q)) :=
  (World.cell?_setCell_other w _ _ _ (fun e => hne (by injection e))).trans (h.cell q hq)
/-- The comparison's answer at two numbers of the list. -/
theorem SortAt.cmp {W0 w : World} {C BR BO n cap : Nat} {r f : Nat → Nat} (S : SortSeat W0 C BR BO n cap r) (h : SortAt W0 w BO n f) (i j : Nat) (hi : i < n) (hj : j < n) (m : Nat) :
    Calls Try.prog 34 #[.int .i64 (f i), .int .i64 (f j), .pointer (some ⟨C, 0, none⟩)] (w.drewN m) fun e w' => e = .returned (.int .i64 (cmpD (r (f j)) (r (f i)))) ∧ ∃ k, w' = (w.drewN m).drewN k :=
  byRest_any C BR n cap r (f i) (f j) (h.vals i hi) (h.vals j hj) _ ((S.rests.keep h.below S.box S.row).drewN m)

set_option maxRecDepth 100000 in
set_option maxHeartbeats 1600000 in
theorem insertion_any {W0 : World} {C BR BO n cap : Nat} {r : Nat → Nat} (S : SortSeat W0 C BR BO n cap r) (f : Nat → Nat) (a b cp : Nat) (hab : a ≤ b) (hb : b ≤ n) (hf : ∀ i j, a ≤ i → i < j → j < b → f i < f j) (w : World) (h : SortAt W0 w BO n f) :
    Calls Try.prog 47 #[.slice (some ⟨BO, 0, none⟩) n cp, .int .i64 a, .int .i64 b, .func (.func 34) #[] #[.pointer (some ⟨C, 0, none⟩)]] w fun e w' =>
      e = .returned (.tuple #[]) ∧ ∃ g, Moved a b f g ∧ SortedOn r g a b ∧ SortAt W0 w' BO n g := by
  have few := S.few
  have HS := Lib.hid S
  have HF := Lib.hid hf
  have H0 := Lib.hid h
  clear S hf h
  go_enter Try.func47, Try.ntmps47
  go_wp2_with fail
  go_loopw [8] (fun vi wr => ∃ (i : Nat) (g : Nat → Nat), vi = .int .i64 i ∧ a < i ∧ i ≤ b + 1 ∧ Hid (InsOut r f g a b i) ∧ Hid (SortAt W0 wr BO n g)) (fun vi _ => b + 1 - (intOf vi).toNat)
  case atStart => exact ⟨a + 1, f, by go_num, by omega, by omega, Lib.hid (InsOut.start HF.out), H0⟩
  case round =>
    obtain ⟨i, g, rfl, hai, hib, hO, hA⟩ := hrel
    by_cases hlt : i < b
    · go_wp2_with fail
      go_loopw [9] (fun vj wx => ∃ (j : Nat) (h : Nat → Nat), vj = .int .i64 j ∧ a ≤ j ∧ j ≤ i ∧ Hid (InsAt r f h a b i j) ∧ Hid (SortAt W0 wx BO n h)) (fun vj _ => (intOf vj).toNat)
      case atStart => exact ⟨i, g, rfl, by omega, Nat.le_refl _, Lib.hid (hO.out.enter hlt), hA⟩
      case round =>
        obtain ⟨j, h, rfl, haj, hji, hI, hB⟩ := hrel
        by_cases hja : a < j
        · obtain ⟨jp, rfl⟩ : ∃ q, j = q + 1 := ⟨j - 1, by omega⟩
          have z1 : ((jp + 1 : Nat) : Int) = (jp : Int) + 1 := by omega
          have g1 : decide ((a : Int) < (jp : Int) + 1) = true := decide_eq_true (by omega)
          have b1 : (0 : Int) ≤ (jp : Int) + 1 := by omega
          have b2 : (jp : Int) + 1 < (n : Int) := by omega
          have b3 : (jp : Int) < (n : Int) := by omega
          have b4 : (0 : Int) ≤ (jp : Int) := by omega
          have t1 : ((jp : Int) + 1).toNat = jp + 1 := by omega
          have t2 : ((jp : Int)).toNat = jp := by omega
          have w1 : IntKind.i64.wrap ((jp : Int) + 1) = (jp : Int) + 1 := by rw [IntKind.wrap_i64]; omega
          have w2 : IntKind.i64.wrap (jp : Int) = (jp : Int) := by rw [IntKind.wrap_i64]; omega
          have l1 := fun m => (hB.out.drewN m).cell (jp + 1) (by omega)
          have l2 := fun m => (hB.out.drewN m).cell jp (by omega)
          have HC := Lib.hid (hB.out.cmp HS.out (jp + 1) jp (by omega) (by omega))
          have hcv := cmpD_neg (r (h jp)) (r (h (jp + 1)))
          by_cases ht : r (h jp) < r (h (jp + 1))
          · rw [decide_eq_true ht] at hcv
            have NI := Lib.hid (hI.out.swap hja hji hlt ht)
            have NB := Lib.hid (fun m => (hB.out.drewN m).swap (jp + 1) jp (by omega) (by omega))
            have NX := Lib.hid hB.out
            clear hI hB ht
            go_wp2_with fail
            go_quiet ((go_at_call 34; refine Calls.quiet_of (HC.out _)))
            have c1 := (NX.out.drewN nq).cell (jp + 1) (by omega)
            have c2 := (NX.out.drewN nq).cell jp (by omega)
            have f1 := (NX.out.drewN nq).soft (jp + 1) (by omega)
            have f2 := (NX.out.drewN nq).soft jp (by omega)
            have c3 := (NX.out.drewN nq).cell2 (jp + 1) jp (by omega) (by omega) (.int .i64 (h jp))
            have N2 := Lib.hid ((NB.out nq).drewN 1)
            clear l1 l2 HC NX NB
            generalize h (jp + 1) = x at *
            generalize h jp = y at *
            generalize wr.drewN nq = w2 at *
            go_wp2_with fail
            go_big_region
            go_wp2_with fail
            go_roundw
            case rel => exact ⟨jp, _, by go_num, by omega, by omega, NI, N2⟩
            case measure => simp [intOf]
          · rw [decide_eq_false ht] at hcv
            have NI := Lib.hid (hI.out.stop haj hji HF.out (.inr ht))
            have NX := Lib.hid hB.out
            clear hI hB ht
            go_wp2_with fail
            go_quiet ((go_at_call 34; refine Calls.quiet_of (HC.out _)))
            have N2 := Lib.hid (NX.out.drewN nq)
            clear l1 l2 HC NX
            generalize h (jp + 1) = x at *
            generalize h jp = y at *
            generalize wr.drewN nq = w2 at *
            go_wp2_with fail
            go_roundw
            case rel => exact ⟨i + 1, _, by go_num, by omega, by omega, NI, N2⟩
            case measure => simp [intOf]; omega
        · obtain rfl : j = a := by omega
          have NI := Lib.hid (hI.out.stop haj hji HF.out (.inl rfl))
          have NX := Lib.hid hB.out
          have g1 : decide ((j : Int) < (j : Int)) = false := decide_eq_false (by omega)
          clear hI hB
          go_wp2_with fail
          go_quiet (fail)
          have N2 := Lib.hid (NX.out.drewN nq)
          clear NX
          go_wp2_with fail
          go_roundw
          case rel => exact ⟨i + 1, _, by go_num, by omega, by omega, NI, N2⟩
          case measure => simp [intOf]; omega
    · go_wp2_with fail
      go_end0
      exact ⟨rfl, g, hO.out.moved, hO.out.sorted.sub (Nat.le_refl _) (by omega), hA.out⟩
end Go.Proofs.Ytnjegnmkabnkkaa
