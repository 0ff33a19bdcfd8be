/- What Validate of the landed package currency returns: the first error of a table of rates. Condition: the table's cells are known. -/
import Derived.Test.YtjjidbnjkhdkaaaCurCmp2
namespace Go.Proofs.Ytjjidbnjkhdkaaa
open Go.RowKit

/-- Of a region that draws its order: what its loads of two rows read stays, behind a draw and behind a call. -/
theorem six_drew {w w1 : World} {q0 q1 q2 r0 r1 r2 : Addr} {v0 v1 v2 u0 u1 u2 : Value}
    (h : w1.cell? q0 = some v0 ∧ w1.cell? q1 = some v1 ∧ w1.cell? q2 = some v2 ∧ w1.cell? r0 = some u0 ∧ w1.cell? r1 = some u1 ∧ w1.cell? r2 = some u2 ∧ Below w.heap.size w w1) :
    w1.drew.cell? q0 = some v0 ∧ w1.drew.cell? q1 = some v1 ∧ w1.drew.cell? q2 = some v2 ∧ w1.drew.cell? r0 = some u0 ∧ w1.drew.cell? r1 = some u1 ∧ w1.drew.cell? r2 = some u2 ∧ Below w.heap.size w w1.drew :=
  ⟨h.1, h.2.1, h.2.2.1, h.2.2.2.1, h.2.2.2.2.1, h.2.2.2.2.2.1, h.2.2.2.2.2.2.drew⟩
theorem six_call {w w1 w2 : World} (hb : Below w1.heap.size w1 w2) {q0 q1 q2 r0 r1 r2 : Addr} {v0 v1 v2 u0 u1 u2 : Value}
    (h : w1.cell? q0 = some v0 ∧ w1.cell? q1 = some v1 ∧ w1.cell? q2 = some v2 ∧ w1.cell? r0 = some u0 ∧ w1.cell? r1 = some u1 ∧ w1.cell? r2 = some u2 ∧ Below w.heap.size w w1) :
    w2.cell? q0 = some v0 ∧ w2.cell? q1 = some v1 ∧ w2.cell? q2 = some v2 ∧ w2.cell? r0 = some u0 ∧ w2.cell? r1 = some u1 ∧ w2.cell? r2 = some u2 ∧ Below w.heap.size w w2 := by
  have k := fun p u (h : w1.cell? p = some u) => (hb.cell (World.block_lt_of_cell? w1 p h)).trans h
  exact ⟨k _ _ h.1, k _ _ h.2.1, k _ _ h.2.2.1, k _ _ h.2.2.2.1, k _ _ h.2.2.2.2.1, k _ _ h.2.2.2.2.2.1, h.2.2.2.2.2.2.trans (hb.mono h.2.2.2.2.2.2.size)⟩

set_option maxRecDepth 100000 in
set_option maxHeartbeats 3200000 in
theorem curValidate_any (v : Value) (n : Nat) (S : Nat → ByteArray) (F R : Nat → Int) (w : World) (h : TabAt w v n S F R) :
    Calls Try.prog 11 #[v] w fun e w' => e = .returned (.int .i64 (tabE S F R n)) ∧ Below w.heap.size w w' := by
  rcases h with ⟨rfl, rfl⟩ | ⟨a, cap, rfl, h1, h2, h3⟩
  · have e0 : tabE S F R 0 = 0 := rfl
    rw [e0]
    go_enter Try.func11, Try.ntmps11
    go_wp2_with fail
    go_loop [10] (fun vi => vi = .int .i64 0) (fun _ => 0)
    case atStart => rfl
    case round =>
      subst hrel
      go_wp2_with fail
      go_ret
      exact ⟨rfl, Below.refl _ _⟩
  · by_cases hn : 1000 < n
    · rw [show tabE S F R n = 8 from if_pos hn]
      have d0 : decide ((1000 : Int) < (n : Int)) = true := decide_eq_true (by omega)
      clear h3
      go_enter Try.func11, Try.ntmps11
      go_wp2_with fail
      go_ret
      exact ⟨rfl, Below.refl _ _⟩
    · rw [show tabE S F R n = tabF S F R n from if_neg hn]
      have d0 : decide ((1000 : Int) < (n : Int)) = false := decide_eq_false (by omega)
      have HC := Lib.hid h3
      have HQ := Lib.hid (fun s hs w => isForeign_any s hs w)
      have HDy := Lib.hid (fun x w => curDay_any x w)
      have HCm := Lib.hid (fun x y a b r q w => curCompare_any x y a b r q w)
      have HStop := Lib.hid (fun i (h : tabF S F R i = 0) (h2 : rowE S F R i ≠ 0) (hi : i < n) => tabF_stop h h2 n hi)
      obtain ⟨T, hT⟩ : ∃ T, T = tabF S F R n := ⟨_, rfl⟩
      rw [← hT]
      have HTT := Lib.hid hT
      clear h3 hT
      go_enter Try.func11, Try.ntmps11
      go_wp2_with fail
      go_loopw [10] (fun vi wx => ∃ i : Nat, vi = .int .i64 i ∧ i ≤ n ∧ Hid (tabF S F R i = 0) ∧ Hid (Below w.heap.size w wx)) (fun vi _ => n - (intOf vi).toNat)
      case atStart => exact ⟨0, by go_num, by omega, Lib.hid rfl, Lib.hid (Below.refl _ _)⟩
      case round =>
        obtain ⟨i, rfl, hi, hF, hB⟩ := hrel
        by_cases hlt : i < n
        · have hnext : Hid (rowE S F R i = 0 → tabF S F R (i + 1) = 0) := Lib.hid (fun h => (if_pos hF.out).trans h)
          have hend : Hid (rowE S F R i ≠ 0 → T = rowE S F R i) := Lib.hid (fun h => HTT.out.trans (HStop.out i hF.out h hlt))
          have hK := fun p u (h : w.cell? p = some u) => (hB.out.cell (World.block_lt_of_cell? w p h)).trans h
          obtain ⟨s0, c1, c2, c3⟩ := HC.out i hlt
          obtain ⟨p, hp⟩ : ∃ p, a.add (i * 3) = p := ⟨_, rfl⟩
          rw [hp] at c1 c2 c3
          have c1 := hK _ _ c1
          have c2 := hK _ _ c2
          have c3 := hK _ _ c3
          have NB := Lib.hid (fun o => hB.out.alloc hB.out.size o)
          have NB2 := Lib.hid (fun o k => below_drewN (hB.out.alloc hB.out.size o) k)
          have hQ := Lib.hid (HQ.out (S i) s0)
          have hD := Lib.hid (HDy.out (F i))
          by_cases k1 : curB (S i) = false
          · have hr : rowE S F R i = 1 := if_pos k1
            have hTe := hend.out (by rw [hr]; omega)
            rw [hr] at hTe
            subst hTe
            rw [k1] at hQ
            clear hnext hend hK HC HQ HDy HStop HTT hF hB k1 hr hD NB2 HCm
            go_wp2_with fail
            refine (hQ.out _).mono ?_
            rintro e w1 ⟨rfl, rfl⟩
            go_wp2_with fail
            go_ret
            exact ⟨rfl, NB.out _⟩
          · have k1' : curB (S i) = true := by simpa using k1
            rw [k1'] at hQ
            by_cases k2 : dayB (F i) = false ∨ R i < 1 ∨ 1000000000 < R i
            · have hr : rowE S F R i = 2 := (if_neg k1).trans (if_pos k2)
              have hTe := hend.out (by rw [hr]; omega)
              rw [hr] at hTe
              subst hTe
              clear hnext hend hK HC HQ HDy HStop HTT hF hB k1 hr NB2 HCm
              cases hdy : dayB (F i) with
              | false =>
                rw [hdy] at hD
                clear k2 hdy k1'
                go_wp2_with fail
                refine (hQ.out _).mono ?_
                rintro e w1 ⟨rfl, rfl⟩
                go_wp2_with fail
                refine (hD.out _).mono ?_
                rintro e w1 ⟨rfl, rfl⟩
                go_wp2_with fail
                go_ret
                exact ⟨rfl, NB.out _⟩
              | true =>
                rw [hdy] at hD k2
                have k3 : R i < 1 ∨ 1000000000 < R i := by simpa using k2
                clear k2 hdy k1'
                by_cases k4 : R i < 1
                · have d1 : decide (R i < 1) = true := decide_eq_true k4
                  clear k3 k4
                  go_wp2_with fail
                  refine (hQ.out _).mono ?_
                  rintro e w1 ⟨rfl, rfl⟩
                  go_wp2_with fail
                  refine (hD.out _).mono ?_
                  rintro e w1 ⟨rfl, rfl⟩
                  go_wp2_with fail
                  go_ret
                  exact ⟨rfl, NB.out _⟩
                · have d1 : decide (R i < 1) = false := decide_eq_false k4
                  have d2 : decide (1000000000 < R i) = true := decide_eq_true (by omega)
                  clear k3 k4
                  go_wp2_with fail
                  refine (hQ.out _).mono ?_
                  rintro e w1 ⟨rfl, rfl⟩
                  go_wp2_with fail
                  refine (hD.out _).mono ?_
                  rintro e w1 ⟨rfl, rfl⟩
                  go_wp2_with fail
                  go_ret
                  exact ⟨rfl, NB.out _⟩
            · have hdy : dayB (F i) = true := by
                cases hd : dayB (F i) with
                | true => rfl
                | false => exact absurd (.inl hd) k2
              have d1 : decide (R i < 1) = false := decide_eq_false (fun h => k2 (.inr (.inl h)))
              have d2 : decide (1000000000 < R i) = false := decide_eq_false (fun h => k2 (.inr (.inr h)))
              rw [hdy] at hD
              have hr0 : rowE S F R i = if 0 < i ∧ (Op.bytesLess (S i).toList (S (i - 1)).toList = true ∨ (((S i).toList == (S (i - 1)).toList) = true ∧ F i ≤ F (i - 1))) then 9 else 0 := (if_neg k1).trans (if_neg k2)
              have hP := HC.out (i - 1) (by omega)
              clear k1 k2 k1' hdy HC HQ HDy HStop HTT
              by_cases hi0 : 0 < i
              · obtain ⟨j, rfl⟩ : ∃ j, i = j + 1 := ⟨i - 1, by omega⟩
                rw [Nat.add_sub_cancel] at hr0 hP
                obtain ⟨_, p1, p2, p3⟩ := hP
                obtain ⟨q, hq⟩ : ∃ q, a.add (j * 3) = q := ⟨_, rfl⟩
                rw [hq] at p1 p2 p3
                have p1 := hK _ _ p1
                have p2 := hK _ _ p2
                have p3 := hK _ _ p3
                have z1 : ((j + 1 : Nat) : Int) = (j : Int) + 1 := by omega
                have g1 : decide ((0 : Int) < (j : Int) + 1) = true := decide_eq_true (by omega)
                have b3 : (j : Int) < (n : Int) := by omega
                have b4 : (0 : Int) ≤ (j : Int) := by omega
                have t2 : ((j : Int)).toNat = j := by omega
                have w2 : IntKind.i64.wrap (j : Int) = (j : Int) := by rw [IntKind.wrap_i64]; omega
                have hc := Lib.hid (HCm.out (S j) (S (j + 1)) (F j) (F (j + 1)) (R j) (R (j + 1)))
                have hdec := Lib.hid (cmpR_nonneg (S j) (S (j + 1)) (F j) (F (j + 1)))
                generalize cmpR (S j) (S (j + 1)) (F j) (F (j + 1)) = Z at *
                obtain ⟨BZ, hBZ⟩ : ∃ b, decide (0 ≤ Z) = b := ⟨_, rfl⟩
                have hdec2 : Hid (rowE S F R (j + 1) = if BZ = true then 9 else 0) := Lib.hid (by
                  rw [hr0, ← hBZ, hdec.out]
                  by_cases hx : Op.bytesLess (S (j + 1)).toList (S j).toList = true ∨ (((S (j + 1)).toList == (S j).toList) = true ∧ F (j + 1) ≤ F j)
                  · rw [if_pos ⟨by omega, hx⟩, if_pos (by
                      rcases hx with hx | ⟨hx, hy⟩
                      · rw [hx]; rfl
                      · rw [hx, decide_eq_true hy]; simp)]
                  · rw [if_neg (fun h => hx h.2), if_neg (fun h => hx (by
                      rw [Bool.or_eq_true, Bool.and_eq_true, decide_eq_true_eq] at h
                      exact h))])
                clear hr0 hi0 hK HCm hdec NB NB2
                unfold rowV at hc
                go_wp2_with fail
                refine (hQ.out _).mono ?_
                rintro e w1 ⟨rfl, rfl⟩
                go_wp2_with fail
                refine (hD.out _).mono ?_
                rintro e w1 ⟨rfl, rfl⟩
                go_wp2_with fail
                have kA := fun p u (h : wr.cell? p = some u) => (((Below.refl wr.heap.size wr).alloc (Nat.le_refl _) (Obj.cells #[Value.string (S (j + 1)), Value.int IntKind.i64 (F (j + 1)), Value.int IntKind.i64 (R (j + 1))] 25)).cell (World.block_lt_of_cell? wr p h)).trans h
                have hS0 := (⟨kA _ _ p1, kA _ _ p2, kA _ _ p3, by simp [go_sem], by simp [go_sem], by simp [go_sem], hB.out.alloc hB.out.size _⟩ :
                  (wr.alloc (Obj.cells #[Value.string (S (j + 1)), Value.int IntKind.i64 (F (j + 1)), Value.int IntKind.i64 (R (j + 1))] 25)).cell? q = some (.string (S j)) ∧ (wr.alloc (Obj.cells #[Value.string (S (j + 1)), Value.int IntKind.i64 (F (j + 1)), Value.int IntKind.i64 (R (j + 1))] 25)).cell? ⟨q.block, q.off + 1, none⟩ = some (.int .i64 (F j)) ∧ (wr.alloc (Obj.cells #[Value.string (S (j + 1)), Value.int IntKind.i64 (F (j + 1)), Value.int IntKind.i64 (R (j + 1))] 25)).cell? ⟨q.block, q.off + 2, none⟩ = some (.int .i64 (R j)) ∧
                  (wr.alloc (Obj.cells #[Value.string (S (j + 1)), Value.int IntKind.i64 (F (j + 1)), Value.int IntKind.i64 (R (j + 1))] 25)).cell? ⟨wr.heap.size, 0, none⟩ = some (.string (S (j + 1))) ∧ (wr.alloc (Obj.cells #[Value.string (S (j + 1)), Value.int IntKind.i64 (F (j + 1)), Value.int IntKind.i64 (R (j + 1))] 25)).cell? ⟨wr.heap.size, 1, none⟩ = some (.int .i64 (F (j + 1))) ∧ (wr.alloc (Obj.cells #[Value.string (S (j + 1)), Value.int IntKind.i64 (F (j + 1)), Value.int IntKind.i64 (R (j + 1))] 25)).cell? ⟨wr.heap.size, 2, none⟩ = some (.int .i64 (R (j + 1))) ∧
                  Below w.heap.size w (wr.alloc (Obj.cells #[Value.string (S (j + 1)), Value.int IntKind.i64 (F (j + 1)), Value.int IntKind.i64 (R (j + 1))] 25)))
                clear kA p1 p2 p3 c1 c2 c3 hB
                generalize wr.alloc (Obj.cells #[Value.string (S (j + 1)), Value.int IntKind.i64 (F (j + 1)), Value.int IntKind.i64 (R (j + 1))] 25) = W at *
                go_region_held3 (fun w' => w'.cell? q = some (.string (S j)) ∧ w'.cell? ⟨q.block, q.off + 1, none⟩ = some (.int .i64 (F j)) ∧ w'.cell? ⟨q.block, q.off + 2, none⟩ = some (.int .i64 (R j)) ∧ w'.cell? ⟨wr.heap.size, 0, none⟩ = some (.string (S (j + 1))) ∧ w'.cell? ⟨wr.heap.size, 1, none⟩ = some (.int .i64 (F (j + 1))) ∧ w'.cell? ⟨wr.heap.size, 2, none⟩ = some (.int .i64 (R (j + 1))) ∧ Below w.heap.size w w')
                  (first
                    | assumption
                    | exact six_drew (by assumption)
                    | exact six_call (by assumption) (by assumption))
                  (first
                    | (go_at_call 27; refine (hc.out _).mono ?_; rintro e w' ⟨rfl, hbk⟩))
                all_goals
                  rename_i hh
                  have hL := Lib.hid hh.2.2.2.2.2.2
                  clear hh hS0
                  cases BZ with
                  | true =>
                    have hr : rowE S F R (j + 1) = 9 := hdec2.out
                    have hTe := hend.out (by rw [hr]; omega)
                    rw [hr] at hTe
                    subst hTe
                    clear hnext hend hdec2 hr
                    go_wp2_with fail
                    go_ret
                    exact ⟨rfl, hL.out⟩
                  | false =>
                    have hN := Lib.hid (hnext.out hdec2.out)
                    clear hnext hend hdec2
                    go_wp2_with fail
                    go_roundw
                    case rel => exact ⟨j + 1 + 1, by go_num, by omega, hN, hL⟩
                    case measure => simp [intOf]; omega
              · obtain rfl : i = 0 := by omega
                have hr : rowE S F R 0 = 0 := hr0.trans (if_neg (fun h => absurd h.1 (by omega)))
                have hN := Lib.hid (hnext.out hr)
                have g1 : decide ((0 : Int) < 0) = false := decide_eq_false (by omega)
                clear hnext hend hr hr0 NB hP hK hi0 hB HCm
                go_wp2_with fail
                refine (hQ.out _).mono ?_
                rintro e w1 ⟨rfl, rfl⟩
                go_wp2_with fail
                refine (hD.out _).mono ?_
                rintro e w1 ⟨rfl, rfl⟩
                go_wp2_with fail
                go_quiet (fail)
                go_wp2_with fail
                go_roundw
                case rel => exact ⟨1, by go_num, by omega, hN, Lib.hid (NB2.out _ _)⟩
                case measure => simp [intOf]; omega
        · obtain rfl : i = n := by omega
          have hTe : T = 0 := HTT.out.trans hF.out
          subst hTe
          go_wp2_with fail
          go_ret
          exact ⟨rfl, hB.out⟩
end Go.Proofs.Ytjjidbnjkhdkaaa
