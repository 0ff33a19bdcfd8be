/- What ratesOf of the landed package currency returns: the rates of a day by currency, or an error. Condition: the table's cells are known. -/
import Derived.Test.YtjjidbnjkhdkaaaCurMap
namespace Go.Proofs.Ytjjidbnjkhdkaaa
open Go.RowKit Go.Maps

/-- What ratesOf returns: an error, or a map of its own making. -/
def RatesMade (S : Nat → ByteArray) (F R : Nat → Int) (n : Nat) (day : Int) (w : World) (e : Ending) (w' : World) : Prop :=
  ((tabE S F R n ≠ 0 ∧ e = .returned (.tuple #[.map none, .int .i64 (tabE S F R n)])) ∨
    (tabE S F R n = 0 ∧ dayB day = false ∧ e = .returned (.tuple #[.map none, .int .i64 2])) ∨
    (tabE S F R n = 0 ∧ dayB day = true ∧ ∃ B, e = .returned (.tuple #[.map (some B), .int .i64 0]) ∧ w'.ownsMap Try.prog 9 (plainElem Try.prog 3) B (n + 1) (ratesD S F R day n))) ∧ Below w.heap.size w w'

set_option maxRecDepth 100000 in
set_option maxHeartbeats 3200000 in
theorem ratesOf_any (v : Value) (n : Nat) (S : Nat → ByteArray) (F R : Nat → Int) (day : Int) (w : World) (h : TabAt w v n S F R) :
    Calls Try.prog 31 #[v, .int .i64 day] w (RatesMade S F R n day w) := by
  have HT := Lib.hid (curValidate_any v n S F R w h)
  have HD := Lib.hid (fun w => curDay_any day w)
  have hform : ∃ a cap, v = .slice a n cap := by
    rcases h with ⟨h, h0⟩ | ⟨a, cap, h, _⟩
    · exact ⟨none, 0, by rw [h, h0]⟩
    · exact ⟨some a, cap, h⟩
  by_cases he : tabE S F R n = 0
  · rw [he] at HT
    cases hd : dayB day with
    | false =>
      rw [hd] at HD
      have hp : Hid (∀ e w', e = .returned (.tuple #[.map none, .int .i64 2]) ∧ Below w.heap.size w w' → RatesMade S F R n day w e w') := Lib.hid (fun e w' hx => ⟨.inr (.inl ⟨he, hd, hx.1⟩), hx.2⟩)
      refine Calls.mono ?_ hp.out
      obtain ⟨a, cap, rfl⟩ := hform
      clear hp he hd h
      go_enter Try.func31, Try.ntmps31
      go_wp2_with fail
      refine HT.out.mono ?_
      rintro e w1 ⟨rfl, hb⟩
      have HB := Lib.hid hb
      clear hb
      go_wp2_with fail
      refine (HD.out _).mono ?_
      rintro e w2 ⟨rfl, rfl⟩
      go_wp2_with fail
      go_ret2
      exact ⟨rfl, HB.out⟩
    | true =>
      rw [hd] at HD
      have hp : Hid (∀ e w', (∃ B, e = .returned (.tuple #[.map (some B), .int .i64 0]) ∧ w'.ownsMap Try.prog 9 (plainElem Try.prog 3) B (n + 1) (ratesD S F R day n)) ∧ Below w.heap.size w w' → RatesMade S F R n day w e w') := Lib.hid (fun e w' hx => ⟨.inr (.inr ⟨he, hd, hx.1⟩), hx.2⟩)
      refine Calls.mono ?_ hp.out
      obtain ⟨hn1, hF⟩ := tabE_zero he
      have HR := Lib.hid (fun i hi => rowE_rate (tabF_rows hF i hi))
      have HK := Lib.hid (fun (W : World) (hb : Below w.heap.size w W) => h.keep hb)
      have hDat : Hid (∀ k, k < n → ratesD S F R day (k + 1) = if decide (F k ≤ day) = true then (ratesD S F R day k).put (rateK (S k)) (.lit (.int .i64 (R k))) else ratesD S F R day k) := Lib.hid (fun k _ => rfl)
      have hD0 : Hid (ratesD S F R day 0 = (DataW.map []).put (rateK ⟨#[69, 85, 82]⟩) (.lit (.int .i64 1000000))) := Lib.hid rfl
      have hmm := @run_makeMap Try.prog
      have hk0 := keyS ⟨#[69, 85, 82]⟩ (by decide)
      clear hp he hd hF
      rcases h with ⟨rfl, rfl⟩ | ⟨a, cap, rfl, h1, h2, h3⟩
      · go_enter Try.func31, Try.ntmps31
        go_wp2_with fail
        refine HT.out.mono ?_
        rintro e w1 ⟨rfl, hb⟩
        have HB := Lib.hid hb
        clear hb
        go_wp2_with fail
        refine (HD.out _).mono ?_
        rintro e w2 ⟨rfl, rfl⟩
        go_wp2_with (refine wpList_insert_own (H := Unit) _ rfl _ _ _ 57 rfl 9 3 keysS undM (plainElem Try.prog 3) w1.heap.size 0 _ rfl (World.ownsMap_made _ _ _ _) (by unfold maxLen; omega) _ _ _ rfl rfl hk0 (.lit (.int .i64 1000000)) [] (plainElem_int undI (by decide)) ?_; intro w2 hown hgr)
        have hB2 := Lib.hid ((HB.out.alloc HB.out.size _).grown hgr (by have := HB.out.size; simp; omega) (fun j hj => by cases hj; exact HB.out.size))
        have hown2 := Lib.hid (hD0.out.symm ▸ hown)
        clear hown hgr
        generalize w1.heap.size = B at *
        go_loop [22] (fun vi => vi = .int .i64 0) (fun _ => 0)
        case atStart => rfl
        case round =>
          subst hrel
          go_wp2_with fail
          go_ret2
          exact ⟨⟨B, rfl, hown2.out⟩, hB2.out⟩
      · have HC := Lib.hid h3
        clear h3 hform
        have HBs := Lib.hid (fun i hi => (HC.out i hi).1)
        go_enter Try.func31, Try.ntmps31
        go_wp2_with fail
        refine HT.out.mono ?_
        rintro e w1 ⟨rfl, hb⟩
        have HB := Lib.hid hb
        clear hb
        go_wp2_with fail
        refine (HD.out _).mono ?_
        rintro e w2 ⟨rfl, rfl⟩
        go_wp2_with (refine wpList_insert_own (H := Unit) _ rfl _ _ _ 57 rfl 9 3 keysS undM (plainElem Try.prog 3) w1.heap.size 0 _ rfl (World.ownsMap_made _ _ _ _) (by unfold maxLen; omega) _ _ _ rfl rfl hk0 (.lit (.int .i64 1000000)) [] (plainElem_int undI (by decide)) ?_; intro w2 hown hgr)
        have hB2 := Lib.hid ((HB.out.alloc HB.out.size _).grown hgr (by have := HB.out.size; simp; omega) (fun j hj => by cases hj; exact HB.out.size))
        have hown2 := Lib.hid (hD0.out.symm ▸ hown)
        have hBs := Lib.hid HB.out.size
        clear hown hgr HB hk0 hmm hD0 HT
        generalize w1.heap.size = B at *
        go_loopw [22] (fun vi wr => ∃ i : Nat, vi = .int .i64 i ∧ i ≤ n ∧ Hid (wr.ownsMap Try.prog 9 (plainElem Try.prog 3) B (i + 1) (ratesD S F R day i)) ∧ Hid (Below w.heap.size w wr)) (fun vi _ => n - (intOf vi).toNat)
        case atStart => exact ⟨0, by go_num, by omega, hown2, hB2⟩
        case round =>
          obtain ⟨i, rfl, hi, hO, hB⟩ := hrel
          by_cases hlt : i < n
          · have hK := fun p u (h : w.cell? p = some u) => (hB.out.cell (World.block_lt_of_cell? w p h)).trans h
            obtain ⟨s0, c1, c2, c3⟩ := HC.out i hlt
            obtain ⟨p, hp⟩ : ∃ p, a.add (i * 3) = p := ⟨_, rfl⟩
            rw [hp] at c1 c2 c3
            have c1 := hK _ _ c1
            have c2 := hK _ _ c2
            have c3 := hK _ _ c3
            have hwf : (Lit.int .i64 (R i)).wf = true := WalkArith.wf_i64 (by have := HR.out i hlt; omega)
            have hnx := hDat.out i hlt
            have hkey := keyS (S i) s0
            obtain ⟨BF, hBF⟩ : ∃ b, decide (F i ≤ day) = b := ⟨_, rfl⟩
            have NO := Lib.hid (fun o => hO.out.alloc o)
            have NB := Lib.hid (fun o => hB.out.alloc hB.out.size o)
            have hwz := hB.out.size
            rw [hBF] at hnx
            clear hK HC HR hDat hown2 hB2 HK
            cases BF with
            | false =>
              replace hnx : Hid (ratesD S F R day (i + 1) = ratesD S F R day i) := Lib.hid hnx
              go_wp2_with fail
              go_roundw
              case rel => exact ⟨i + 1, by go_num, by omega, Lib.hid (hnx.out.symm ▸ (NO.out _).mono (by omega)), Lib.hid (NB.out _)⟩
              case measure => simp [intOf]; omega
            | true =>
              replace hnx : Hid (ratesD S F R day (i + 1) = (ratesD S F R day i).put (rateK (S i)) (.lit (.int .i64 (R i)))) := Lib.hid hnx
              have hpl : plainElem (H := Unit) Try.prog 3 (.int .i64 (R i)) = some (.lit (.int .i64 (R i)), []) := plainElem_int undI hwf
              go_wp2_with (at_mapUpdate; refine wpList_mapUpdate_own (H := Unit) _ rfl _ _ _ 57 rfl 9 3 keysS undM (plainElem Try.prog 3) B (i + 1) _ rfl (NO.out _) (by unfold maxLen; omega) _ _ _ rfl rfl hkey (.lit (.int .i64 (R i))) [] hpl ?_; intro w3 hown3 hgr3)
              go_roundw
              case rel => exact ⟨i + 1, by go_num, by omega, Lib.hid (hnx.out.symm ▸ hown3), Lib.hid ((NB.out _).grown hgr3 (NB.out _).size (fun j hj => by cases hj; exact hBs.out))⟩
              case measure => simp [intOf]; omega
          · obtain rfl : i = n := by omega
            go_wp2_with fail
            go_ret2
            exact ⟨⟨B, rfl, hO.out⟩, hB.out⟩
  · have hp : Hid (∀ e w', e = .returned (.tuple #[.map none, .int .i64 (tabE S F R n)]) ∧ Below w.heap.size w w' → RatesMade S F R n day w e w') := Lib.hid (fun e w' hx => ⟨.inl ⟨he, hx.1⟩, hx.2⟩)
    refine Calls.mono ?_ hp.out
    have b1 : (tabE S F R n != 0) = true := by rw [bne_iff_ne]; exact he
    obtain ⟨a, cap, rfl⟩ := hform
    clear hp he h
    generalize tabE S F R n = E at *
    go_enter Try.func31, Try.ntmps31
    go_wp2_with fail
    refine HT.out.mono ?_
    rintro e w1 ⟨rfl, hb⟩
    go_wp2_with fail
    go_ret2
    exact ⟨rfl, hb⟩
end Go.Proofs.Ytjjidbnjkhdkaaa
