/- What At of the reference of layer 5 returns, for every table, text and number. Condition: the table's cells are known. -/
import Derived.Test.YtjjidbnjkhdkaaaCurTab
namespace Go.Proofs.Ytjjidbnjkhdkaaa
open Go.RowKit

/-- The rate of the last element of a currency that has begun. -/
def lastR (S : Nat → ByteArray) (F R : Nat → Int) (c : ByteArray) (day : Int) : Nat → Int
  | 0 => 0
  | n + 1 => if ((S n).toList == c.toList && decide (F n ≤ day)) = true then R n else lastR S F R c day n
/-- What At returns. -/
def atE (S : Nat → ByteArray) (F R : Nat → Int) (n : Nat) (c : ByteArray) (day : Int) : Int :=
  if tabE S F R n ≠ 0 then tabE S F R n else if dayB day = false then 2 else if (c.toList == [69, 85, 82]) = true then 0 else if lastR S F R c day n = 0 then 6 else 0
def atV (S : Nat → ByteArray) (F R : Nat → Int) (n : Nat) (c : ByteArray) (day : Int) : Int :=
  if tabE S F R n ≠ 0 then 0 else if dayB day = false then 0 else if (c.toList == [69, 85, 82]) = true then 1000000 else lastR S F R c day n

set_option maxRecDepth 100000 in
set_option maxHeartbeats 1600000 in
theorem refAt_any (v : Value) (n : Nat) (S : Nat → ByteArray) (F R : Nat → Int) (c : ByteArray) (day : Int) (w : World) (h : TabAt w v n S F R) :
    Calls Try.prog 17 #[v, .string c, .int .i64 day] w fun e w' => e = .returned (.tuple #[.int .i64 (atV S F R n c day), .int .i64 (atE S F R n c day)]) ∧ Below w.heap.size w w' := by
  have HT := Lib.hid (refTable_any v n S F R w h)
  have HD := Lib.hid (fun w => refDay_any day w)
  have hform : ∃ a cap, v = .slice a n cap := by
    rcases h with ⟨h, h0⟩ | ⟨a, cap, h, _⟩
    · exact ⟨none, 0, by rw [h, h0]⟩
    · exact ⟨some a, cap, h⟩
  by_cases he : tabE S F R n = 0
  · rw [he] at HT
    cases hd : dayB day with
    | false =>
      have e1 : atE S F R n c day = 2 := (if_neg (by simpa using he)).trans (if_pos hd)
      have e2 : atV S F R n c day = 0 := (if_neg (by simpa using he)).trans (if_pos hd)
      rw [e1, e2]
      rw [hd] at HD
      obtain ⟨a, cap, rfl⟩ := hform
      clear e1 e2 he hd h
      go_enter Try.func17, Try.ntmps17
      go_wp2_with fail
      refine HT.out.mono ?_
      rintro e w1 ⟨rfl, hb⟩
      have HB := Lib.hid hb
      clear hb
      go_wp2_with fail
      refine (HD.out _).mono ?_
      rintro e w2 ⟨rfl, rfl⟩
      go_wp2_with fail
      go_ret2
      exact ⟨rfl, HB.out⟩
    | true =>
      rw [hd] at HD
      by_cases hc : (c.toList == [69, 85, 82]) = true
      · have e1 : atE S F R n c day = 0 := ((if_neg (by simpa using he)).trans (if_neg (by rw [hd]; simp))).trans (if_pos hc)
        have e2 : atV S F R n c day = 1000000 := ((if_neg (by simpa using he)).trans (if_neg (by rw [hd]; simp))).trans (if_pos hc)
        rw [e1, e2]
        obtain ⟨a, cap, rfl⟩ := hform
        clear e1 e2 he hd h
        go_enter Try.func17, Try.ntmps17
        go_wp2_with fail
        refine HT.out.mono ?_
        rintro e w1 ⟨rfl, hb⟩
        have HB := Lib.hid hb
        clear hb
        go_wp2_with fail
        refine (HD.out _).mono ?_
        rintro e w2 ⟨rfl, rfl⟩
        go_wp2_with fail
        go_ret2
        exact ⟨rfl, HB.out⟩
      · have hc2 : (c.toList == [69, 85, 82]) = false := by simpa using hc
        have e1 : atE S F R n c day = if lastR S F R c day n = 0 then 6 else 0 := ((if_neg (by simpa using he)).trans (if_neg (by rw [hd]; simp))).trans (if_neg hc)
        have e2 : atV S F R n c day = lastR S F R c day n := ((if_neg (by simpa using he)).trans (if_neg (by rw [hd]; simp))).trans (if_neg hc)
        rw [e1, e2]
        have HK := Lib.hid (fun (W : World) (hb : Below w.heap.size w W) => h.keep hb)
        clear e1 e2 he hd hform hc
        rcases h with ⟨rfl, rfl⟩ | ⟨a, cap, rfl, h1, h2, h3⟩
        · go_enter Try.func17, Try.ntmps17
          go_wp2_with fail
          refine HT.out.mono ?_
          rintro e w1 ⟨rfl, hb⟩
          have HB := Lib.hid hb
          clear hb
          go_wp2_with fail
          refine (HD.out _).mono ?_
          rintro e w2 ⟨rfl, rfl⟩
          go_wp2_with fail
          go_loop [9, 10] (fun vr vi => vr = .int .i64 0 ∧ vi = .int .i64 0) (fun _ _ => 0)
          case atStart => exact ⟨rfl, rfl⟩
          case round =>
            obtain ⟨rfl, rfl⟩ := hrel
            go_wp2_with fail
            go_ret2
            exact ⟨rfl, HB.out⟩
        · clear h3
          have hn : n ≤ 9223372036854775807 := by unfold maxLen at h2; omega
          obtain ⟨T, hT⟩ : ∃ T, T = lastR S F R c day n := ⟨_, rfl⟩
          rw [← hT]
          have HTT := Lib.hid hT
          clear hT
          go_enter Try.func17, Try.ntmps17
          go_wp2_with fail
          refine HT.out.mono ?_
          rintro e w1 ⟨rfl, hb⟩
          have HB := Lib.hid hb
          have HC := Lib.hid (HK.out _ hb)
          clear hb HK HT
          go_wp2_with fail
          refine (HD.out _).mono ?_
          rintro e w2 ⟨rfl, rfl⟩
          clear HD
          go_wp2_with fail
          go_loop [9, 10] (fun vr vi => ∃ (i : Nat) (x : Int), vi = .int .i64 i ∧ i ≤ n ∧ vr = .int .i64 x ∧ Hid (x = lastR S F R c day i)) (fun _ vi => n - (intOf vi).toNat)
          case atStart => exact ⟨0, 0, by go_num, by omega, rfl, Lib.hid rfl⟩
          case round =>
            obtain ⟨i, x, rfl, hi, rfl, hX⟩ := hrel
            by_cases hlt : i < n
            · obtain ⟨h5, _⟩ | ⟨a', cap', h5, _, _, h8⟩ := HC.out
              · cases h5
              · injection h5 with ha hb' hc'
                injection ha with ha
                subst ha
                obtain ⟨_, c1, c2, c3⟩ := h8 i hlt
                obtain ⟨p, hp⟩ : ∃ p, a.add (i * 3) = p := ⟨_, rfl⟩
                rw [hp] at c1 c2 c3
                obtain ⟨BE, hBE⟩ : ∃ b, ((S i).toList == c.toList) = b := ⟨_, rfl⟩
                obtain ⟨BF, hBF⟩ : ∃ b, decide (F i ≤ day) = b := ⟨_, rfl⟩
                have hnx : Hid ((if (BE && BF) = true then R i else x) = lastR S F R c day (i + 1)) := Lib.hid (by
                  rw [← hBE, ← hBF, hX.out]
                  rfl)
                clear h8 hX HC hc'
                cases BE with
                | false =>
                  clear hBF
                  go_wp2_with fail
                  go_round
                  case rel => exact ⟨i + 1, _, by go_num, by omega, rfl, hnx⟩
                  case measure => simp [intOf]; omega
                | true =>
                  cases BF with
                  | false =>
                    go_wp2_with fail
                    go_round
                    case rel => exact ⟨i + 1, _, by go_num, by omega, rfl, hnx⟩
                    case measure => simp [intOf]; omega
                  | true =>
                    go_wp2_with fail
                    go_round
                    case rel => exact ⟨i + 1, _, by go_num, by omega, rfl, hnx⟩
                    case measure => simp [intOf]; omega
            · obtain rfl : i = n := by omega
              have hxT : x = T := hX.out.trans HTT.out.symm
              subst hxT
              clear hX HC HTT
              by_cases hx0 : x = 0
              · subst hx0
                go_wp2_with fail
                go_ret2
                exact ⟨rfl, HB.out⟩
              · have e0 : (x == 0) = false := by rw [beq_eq_false_iff_ne]; exact hx0
                go_wp2_with fail
                go_ret2
                exact ⟨rfl, HB.out⟩
  · have e1 : atE S F R n c day = tabE S F R n := if_pos he
    have e2 : atV S F R n c day = 0 := if_pos he
    rw [e1, e2]
    have b1 : (tabE S F R n != 0) = true := by rw [bne_iff_ne]; exact he
    obtain ⟨a, cap, rfl⟩ := hform
    clear e1 e2 he h
    generalize tabE S F R n = E at *
    go_enter Try.func17, Try.ntmps17
    go_wp2_with fail
    refine HT.out.mono ?_
    rintro e w1 ⟨rfl, hb⟩
    go_wp2_with fail
    go_ret2
    exact ⟨rfl, hb⟩
end Go.Proofs.Ytjjidbnjkhdkaaa
