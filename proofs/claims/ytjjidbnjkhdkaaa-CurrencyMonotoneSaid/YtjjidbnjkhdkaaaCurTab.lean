/- What Table of the reference of layer 5 returns: the first error of a table of rates. Condition: the table's cells are known. -/
import Derived.Test.YtjjidbnjkhdkaaaCurRef
import Derived.BigRegion
namespace Go.Proofs.Ytjjidbnjkhdkaaa
open Go.RowKit

/-- The error of element i of a table. -/
def rowE (S : Nat → ByteArray) (F R : Nat → Int) (i : Nat) : Int :=
  if curB (S i) = false then 1 else if dayB (F i) = false ∨ R i < 1 ∨ 1000000000 < R i then 2
  else if 0 < i ∧ (Op.bytesLess (S i).toList (S (i - 1)).toList = true ∨ (((S i).toList == (S (i - 1)).toList) = true ∧ F i ≤ F (i - 1))) then 9 else 0
/-- The first error of the elements below n; the error of the table. -/
def tabF (S : Nat → ByteArray) (F R : Nat → Int) : Nat → Int
  | 0 => 0
  | n + 1 => if tabF S F R n = 0 then rowE S F R n else tabF S F R n
def tabE (S : Nat → ByteArray) (F R : Nat → Int) (n : Nat) : Int := if 1000 < n then 8 else tabF S F R n
theorem tabF_stop {S : Nat → ByteArray} {F R : Nat → Int} {i : Nat} (h : tabF S F R i = 0) (h2 : rowE S F R i ≠ 0) : ∀ n, i < n → tabF S F R n = rowE S F R i
  | 0, hn => absurd hn (by omega)
  | n + 1, hn => by
    show (if tabF S F R n = 0 then rowE S F R n else tabF S F R n) = _
    by_cases e : i = n
    · subst e; rw [if_pos h]
    · have := tabF_stop h h2 n (by omega)
      rw [if_neg (by rw [this]; exact h2), this]
/-- A table, as Go holds it: none, or n elements of three cells each. -/
def TabAt (w : World) (v : Value) (n : Nat) (S : Nat → ByteArray) (F R : Nat → Int) : Prop :=
  (v = .slice none 0 0 ∧ n = 0) ∨ ∃ (a : Addr) (cap : Nat), v = .slice (some a) n cap ∧ n ≤ cap ∧ cap ≤ maxLen ∧ ∀ i, i < n → (S i).size ≤ maxLen ∧ w.cell? (a.add (i * 3)) = some (.string (S i)) ∧
    w.cell? ⟨(a.add (i * 3)).block, (a.add (i * 3)).off + 1, none⟩ = some (.int .i64 (F i)) ∧ w.cell? ⟨(a.add (i * 3)).block, (a.add (i * 3)).off + 2, none⟩ = some (.int .i64 (R i))
theorem TabAt.keep {w w1 : World} {v : Value} {n : Nat} {S : Nat → ByteArray} {F R : Nat → Int} (h : TabAt w v n S F R) (hb : Below w.heap.size w w1) : TabAt w1 v n S F R := by
  have k := fun p u (h : w.cell? p = some u) => (hb.cell (World.block_lt_of_cell? w p h)).trans h
  rcases h with h | ⟨a, cap, h1, h2, h3, h4⟩
  · exact .inl h
  · exact .inr ⟨a, cap, h1, h2, h3, fun i hi => ⟨(h4 i hi).1, k _ _ (h4 i hi).2.1, k _ _ (h4 i hi).2.2.1, k _ _ (h4 i hi).2.2.2⟩⟩

set_option maxRecDepth 100000 in
set_option maxHeartbeats 3200000 in
theorem refTable_any (v : Value) (n : Nat) (S : Nat → ByteArray) (F R : Nat → Int) (w : World) (h : TabAt w v n S F R) :
    Calls Try.prog 12 #[v] w fun e w' => e = .returned (.int .i64 (tabE S F R n)) ∧ Below w.heap.size w w' := by
  rcases h with ⟨rfl, rfl⟩ | ⟨a, cap, rfl, h1, h2, h3⟩
  · have e0 : tabE S F R 0 = 0 := rfl
    rw [e0]
    go_enter Try.func12, Try.ntmps12
    go_wp2_with fail
    go_loop [3] (fun vi => vi = .int .i64 0) (fun _ => 0)
    case atStart => rfl
    case round =>
      subst hrel
      go_wp2_with fail
      go_ret
      exact ⟨rfl, Below.refl _ _⟩
  · by_cases hn : 1000 < n
    · rw [show tabE S F R n = 8 from if_pos hn]
      have d0 : decide ((1000 : Int) < (n : Int)) = true := decide_eq_true (by omega)
      clear h3
      go_enter Try.func12, Try.ntmps12
      go_wp2_with fail
      go_ret
      exact ⟨rfl, Below.refl _ _⟩
    · rw [show tabE S F R n = tabF S F R n from if_neg hn]
      have d0 : decide ((1000 : Int) < (n : Int)) = false := decide_eq_false (by omega)
      have HT := Lib.hid (fun (W : World) (hb : Below w.heap.size w W) => (show TabAt w (.slice (some a) n cap) n S F R from .inr ⟨a, cap, rfl, h1, h2, h3⟩).keep hb)
      have HC := Lib.hid h3
      have HQ := Lib.hid (fun s hs w => refCurrency_any s hs w)
      have HDy := Lib.hid (fun x w => refDay_any x w)
      have HStop := Lib.hid (fun i (h : tabF S F R i = 0) (h2 : rowE S F R i ≠ 0) (hi : i < n) => tabF_stop h h2 n hi)
      obtain ⟨T, hT⟩ : ∃ T, T = tabF S F R n := ⟨_, rfl⟩
      rw [← hT]
      have HTT := Lib.hid hT
      clear h3 hT
      go_enter Try.func12, Try.ntmps12
      go_wp2_with fail
      go_loopw [3] (fun vi wx => ∃ i : Nat, vi = .int .i64 i ∧ i ≤ n ∧ Hid (tabF S F R i = 0) ∧ Hid (Below w.heap.size w wx)) (fun vi _ => n - (intOf vi).toNat)
      case atStart => exact ⟨0, by go_num, by omega, Lib.hid rfl, Lib.hid (Below.refl _ _)⟩
      case round =>
        obtain ⟨i, rfl, hi, hF, hB⟩ := hrel
        by_cases hlt : i < n
        · have hnext : Hid (rowE S F R i = 0 → tabF S F R (i + 1) = 0) := Lib.hid (fun h => (if_pos hF.out).trans h)
          have hend : Hid (rowE S F R i ≠ 0 → T = rowE S F R i) := Lib.hid (fun h => HTT.out.trans (HStop.out i hF.out h hlt))
          have hK := fun p u (h : w.cell? p = some u) => (hB.out.cell (World.block_lt_of_cell? w p h)).trans h
          obtain ⟨s0, c1, c2, c3⟩ := HC.out i hlt
          obtain ⟨p, hp⟩ : ∃ p, a.add (i * 3) = p := ⟨_, rfl⟩
          rw [hp] at c1 c2 c3
          have c1 := hK _ _ c1
          have c2 := hK _ _ c2
          have c3 := hK _ _ c3
          have NB := Lib.hid (fun o => hB.out.alloc hB.out.size o)
          have NB2 := Lib.hid (fun o k => below_drewN (hB.out.alloc hB.out.size o) k)
          have hQ := Lib.hid (HQ.out (S i) s0)
          have hD := Lib.hid (HDy.out (F i))
          by_cases k1 : curB (S i) = false
          · have hr : rowE S F R i = 1 := if_pos k1
            have hTe := hend.out (by rw [hr]; omega)
            rw [hr] at hTe
            subst hTe
            rw [k1] at hQ
            clear hnext hend hK HC HQ HDy HStop HTT HT hF hB k1 hr hD NB2
            go_wp2_with fail
            refine (hQ.out _).mono ?_
            rintro e w1 ⟨rfl, rfl⟩
            go_wp2_with fail
            go_ret
            exact ⟨rfl, NB.out _⟩
          · have k1' : curB (S i) = true := by simpa using k1
            rw [k1'] at hQ
            by_cases k2 : dayB (F i) = false ∨ R i < 1 ∨ 1000000000 < R i
            · have hr : rowE S F R i = 2 := (if_neg k1).trans (if_pos k2)
              have hTe := hend.out (by rw [hr]; omega)
              rw [hr] at hTe
              subst hTe
              clear hnext hend hK HC HQ HDy HStop HTT HT hF hB k1 hr NB2
              cases hdy : dayB (F i) with
              | false =>
                rw [hdy] at hD
                clear k2 hdy k1'
                go_wp2_with fail
                refine (hQ.out _).mono ?_
                rintro e w1 ⟨rfl, rfl⟩
                go_wp2_with fail
                refine (hD.out _).mono ?_
                rintro e w1 ⟨rfl, rfl⟩
                go_wp2_with fail
                go_ret
                exact ⟨rfl, NB.out _⟩
              | true =>
                rw [hdy] at hD k2
                have k3 : R i < 1 ∨ 1000000000 < R i := by simpa using k2
                clear k2 hdy k1'
                by_cases k4 : R i < 1
                · have d1 : decide (R i < 1) = true := decide_eq_true k4
                  clear k3 k4
                  go_wp2_with fail
                  refine (hQ.out _).mono ?_
                  rintro e w1 ⟨rfl, rfl⟩
                  go_wp2_with fail
                  refine (hD.out _).mono ?_
                  rintro e w1 ⟨rfl, rfl⟩
                  go_wp2_with fail
                  go_ret
                  exact ⟨rfl, NB.out _⟩
                · have d1 : decide (R i < 1) = false := decide_eq_false k4
                  have d2 : decide (1000000000 < R i) = true := decide_eq_true (by omega)
                  clear k3 k4
                  go_wp2_with fail
                  refine (hQ.out _).mono ?_
                  rintro e w1 ⟨rfl, rfl⟩
                  go_wp2_with fail
                  refine (hD.out _).mono ?_
                  rintro e w1 ⟨rfl, rfl⟩
                  go_wp2_with fail
                  go_ret
                  exact ⟨rfl, NB.out _⟩
            · have hdy : dayB (F i) = true := by
                cases hd : dayB (F i) with
                | true => rfl
                | false => exact absurd (.inl hd) k2
              have d1 : decide (R i < 1) = false := decide_eq_false (fun h => k2 (.inr (.inl h)))
              have d2 : decide (1000000000 < R i) = false := decide_eq_false (fun h => k2 (.inr (.inr h)))
              rw [hdy] at hD
              have hr0 : rowE S F R i = if 0 < i ∧ (Op.bytesLess (S i).toList (S (i - 1)).toList = true ∨ (((S i).toList == (S (i - 1)).toList) = true ∧ F i ≤ F (i - 1))) then 9 else 0 := (if_neg k1).trans (if_neg k2)
              have hP := HC.out (i - 1) (by omega)
              have hK2 := fun o k p u (h : w.cell? p = some u) => (NB2.out o k).cell (World.block_lt_of_cell? w p h) |>.trans h
              clear hB hK k1 k2 k1' hdy HC HQ HDy HStop HTT
              by_cases hi0 : 0 < i
              · obtain ⟨j, rfl⟩ : ∃ j, i = j + 1 := ⟨i - 1, by omega⟩
                rw [Nat.add_sub_cancel] at hr0 hP
                obtain ⟨_, p1, p2, _⟩ := hP
                obtain ⟨q, hq⟩ : ∃ q, a.add (j * 3) = q := ⟨_, rfl⟩
                rw [hq] at p1 p2
                have p1 := fun o k => hK2 o k _ _ p1
                have p2 := fun o k => hK2 o k _ _ p2
                have z1 : ((j + 1 : Nat) : Int) = (j : Int) + 1 := by omega
                have g1 : decide ((0 : Int) < (j : Int) + 1) = true := decide_eq_true (by omega)
                have b3 : (j : Int) < (n : Int) := by omega
                have b4 : (0 : Int) ≤ (j : Int) := by omega
                have t2 : ((j : Int)).toNat = j := by omega
                have w2 : IntKind.i64.wrap (j : Int) = (j : Int) := by rw [IntKind.wrap_i64]; omega
                obtain ⟨BL, hBL⟩ : ∃ b, Op.bytesLess (S (j + 1)).toList (S j).toList = b := ⟨_, rfl⟩
                obtain ⟨BE, hBE⟩ : ∃ b, ((S (j + 1)).toList == (S j).toList) = b := ⟨_, rfl⟩
                obtain ⟨BF, hBF⟩ : ∃ b, decide (F (j + 1) ≤ F j) = b := ⟨_, rfl⟩
                have hdec : Hid (rowE S F R (j + 1) = if (BL || (BE && BF)) = true then 9 else 0) := Lib.hid (by
                  rw [hr0, ← hBL, ← hBE, ← hBF]
                  by_cases hx : Op.bytesLess (S (j + 1)).toList (S j).toList = true ∨ (((S (j + 1)).toList == (S j).toList) = true ∧ F (j + 1) ≤ F j)
                  · rw [if_pos ⟨by omega, hx⟩, if_pos (by
                      rcases hx with hx | ⟨hx, hy⟩
                      · rw [hx]; rfl
                      · rw [hx, decide_eq_true hy]; simp)]
                  · rw [if_neg (fun h => hx h.2), if_neg (fun h => hx (by
                      rw [Bool.or_eq_true, Bool.and_eq_true, decide_eq_true_eq] at h
                      exact h))])
                clear hr0 hK2 hi0
                cases BL with
                | true =>
                  have hr : rowE S F R (j + 1) = 9 := hdec.out
                  have hTe := hend.out (by rw [hr]; omega)
                  rw [hr] at hTe
                  subst hTe
                  clear hnext hend hdec hr NB hBE hBF
                  go_wp2_with fail
                  refine (hQ.out _).mono ?_
                  rintro e w1 ⟨rfl, rfl⟩
                  go_wp2_with fail
                  refine (hD.out _).mono ?_
                  rintro e w1 ⟨rfl, rfl⟩
                  go_wp2_with fail
                  go_quiet (fail)
                  go_wp2_with fail
                  go_ret
                  exact ⟨rfl, NB2.out _ _⟩
                | false =>
                  cases BE with
                  | true =>
                    cases BF with
                    | true =>
                      have hr : rowE S F R (j + 1) = 9 := hdec.out
                      have hTe := hend.out (by rw [hr]; omega)
                      rw [hr] at hTe
                      subst hTe
                      clear hnext hend hdec hr NB
                      go_wp2_with fail
                      refine (hQ.out _).mono ?_
                      rintro e w1 ⟨rfl, rfl⟩
                      go_wp2_with fail
                      refine (hD.out _).mono ?_
                      rintro e w1 ⟨rfl, rfl⟩
                      go_wp2_with fail
                      go_quiet (fail)
                      go_wp2_with fail
                      go_ret
                      exact ⟨rfl, NB2.out _ _⟩
                    | false =>
                      have hN := Lib.hid (hnext.out hdec.out)
                      clear hnext hend hdec NB
                      go_wp2_with fail
                      refine (hQ.out _).mono ?_
                      rintro e w1 ⟨rfl, rfl⟩
                      go_wp2_with fail
                      refine (hD.out _).mono ?_
                      rintro e w1 ⟨rfl, rfl⟩
                      go_wp2_with fail
                      go_quiet (fail)
                      go_wp2_with fail
                      go_roundw
                      case rel => exact ⟨j + 1 + 1, by go_num, by omega, hN, Lib.hid (NB2.out _ _)⟩
                      case measure => simp [intOf]; omega
                  | false =>
                    have hN := Lib.hid (hnext.out hdec.out)
                    clear hnext hend hdec NB hBF
                    go_wp2_with fail
                    refine (hQ.out _).mono ?_
                    rintro e w1 ⟨rfl, rfl⟩
                    go_wp2_with fail
                    refine (hD.out _).mono ?_
                    rintro e w1 ⟨rfl, rfl⟩
                    go_wp2_with fail
                    go_quiet (fail)
                    go_wp2_with fail
                    go_roundw
                    case rel => exact ⟨j + 1 + 1, by go_num, by omega, hN, Lib.hid (NB2.out _ _)⟩
                    case measure => simp [intOf]; omega
              · obtain rfl : i = 0 := by omega
                have hr : rowE S F R 0 = 0 := hr0.trans (if_neg (fun h => absurd h.1 (by omega)))
                have hN := Lib.hid (hnext.out hr)
                have g1 : decide ((0 : Int) < 0) = false := decide_eq_false (by omega)
                clear hnext hend hr hr0 NB hP hK2 hi0
                go_wp2_with fail
                refine (hQ.out _).mono ?_
                rintro e w1 ⟨rfl, rfl⟩
                go_wp2_with fail
                refine (hD.out _).mono ?_
                rintro e w1 ⟨rfl, rfl⟩
                go_wp2_with fail
                go_quiet (fail)
                go_wp2_with fail
                go_roundw
                case rel => exact ⟨1, by go_num, by omega, hN, Lib.hid (NB2.out _ _)⟩
                case measure => simp [intOf]; omega
        · obtain rfl : i = n := by omega
          have hTe : T = 0 := HTT.out.trans hF.out
          subst hTe
          go_wp2_with fail
          go_ret
          exact ⟨rfl, hB.out⟩
end Go.Proofs.Ytjjidbnjkhdkaaa
