/- The law CurrencyLater, walked: it returns true at every input. No condition. -/
import Derived.Test.YtjjidbnjkhdkaaaCurSelfWalk
import Derived.Test.YtjjidbnjkhdkaaaCurOpen
namespace Go.Proofs.Ytjjidbnjkhdkaaa
open Go.RowKit

theorem lastR_snoc (L : List Exch) (e : Exch) (c : ByteArray) (day : Int) : ∀ n, n ≤ L.length → lastR (sX (L ++ [e])) (fX (L ++ [e])) (rX (L ++ [e])) c day n = lastR (sX L) (fX L) (rX L) c day n
  | 0, _ => rfl
  | n + 1, h => by
    have hs : sX (L ++ [e]) n = sX L n := by unfold sX; rw [snoc_old L e n (by omega)]
    have hf : fX (L ++ [e]) n = fX L n := by unfold fX; rw [snoc_old L e n (by omega)]
    have hr : rX (L ++ [e]) n = rX L n := by unfold rX; rw [snoc_old L e n (by omega)]
    have ih := lastR_snoc L e c day n (by omega)
    unfold lastR
    rw [hs, hf, hr, ih]
theorem lastR_late (L : List Exch) (e : Exch) (c : ByteArray) (day : Int) (h : day < e.f) : lastR (sX (L ++ [e])) (fX (L ++ [e])) (rX (L ++ [e])) c day (L.length + 1) = lastR (sX L) (fX L) (rX L) c day L.length := by
  have hf : fX (L ++ [e]) L.length = e.f := by unfold fX; rw [snoc_new]
  have e1 := lastR_snoc L e c day L.length (Nat.le_refl _)
  show (if ((sX (L ++ [e]) L.length).toList == c.toList && decide (fX (L ++ [e]) L.length ≤ day)) = true then rX (L ++ [e]) L.length else lastR (sX (L ++ [e])) (fX (L ++ [e])) (rX (L ++ [e])) c day L.length) = _
  rw [hf, decide_eq_false (show ¬ e.f ≤ day by omega), Bool.and_false]
  exact (if_neg Bool.false_ne_true).trans e1
theorem at_late {L : List Exch} {e : Exch} (c : ByteArray) {day : Int} (h1 : tabE (sX L) (fX L) (rX L) L.length = 0) (h2 : tabE (sX (L ++ [e])) (fX (L ++ [e])) (rX (L ++ [e])) (L.length + 1) = 0) (h : day < e.f) :
    atV (sX (L ++ [e])) (fX (L ++ [e])) (rX (L ++ [e])) (L.length + 1) c day = atV (sX L) (fX L) (rX L) L.length c day ∧ atE (sX (L ++ [e])) (fX (L ++ [e])) (rX (L ++ [e])) (L.length + 1) c day = atE (sX L) (fX L) (rX L) L.length c day := by
  unfold atV atE
  rw [h1, h2, lastR_late L e c day h]
  exact ⟨rfl, rfl⟩
theorem cr_late {L : List Exch} {e : Exch} (x y : ByteArray) (a : Int) {day : Int} (m : Int) (h1 : tabE (sX L) (fX L) (rX L) L.length = 0) (h2 : tabE (sX (L ++ [e])) (fX (L ++ [e])) (rX (L ++ [e])) (L.length + 1) = 0) (h : day < e.f) :
    crV (sX (L ++ [e])) (fX (L ++ [e])) (rX (L ++ [e])) (L.length + 1) x y a day m = crV (sX L) (fX L) (rX L) L.length x y a day m ∧ crE (sX (L ++ [e])) (fX (L ++ [e])) (rX (L ++ [e])) (L.length + 1) x y a day m = crE (sX L) (fX L) (rX L) L.length x y a day m := by
  unfold crV crE
  rw [(at_late x h1 h2 h).1, (at_late x h1 h2 h).2, (at_late y h1 h2 h).1, (at_late y h1 h2 h).2]
  exact ⟨rfl, rfl⟩
theorem cellsX_one : ∀ (L : List Exch), ∀ u ∈ cellsX L, u.oneCell' = true
  | [], u, h => by cases h
  | e :: L, u, h => by
    have h' : u ∈ (.string e.s : Value) :: .int .i64 e.f :: .int .i64 e.r :: cellsX L := h
    simp only [List.mem_cons] at h'
    rcases h' with rfl | rfl | rfl | h'
    · rfl
    · rfl
    · rfl
    · exact cellsX_one L u h'
/-- What the region keeps: the rate to be put in, and all that lay there. -/
structure KeptX (W0 : World) (B : Nat) (e : Exch) (w : World) : Prop where
  c0 : w.cell? ⟨B, 0, none⟩ = some (.string e.s)
  c1 : w.cell? ⟨B, 1, none⟩ = some (.int .i64 e.f)
  c2 : w.cell? ⟨B, 2, none⟩ = some (.int .i64 e.r)
  below : Below W0.heap.size W0 w
theorem KeptX.of {W0 w : World} {B : Nat} {e : Exch} (h : KeptX W0 B e W0) (hb : Below W0.heap.size W0 w) : KeptX W0 B e w :=
  ⟨(hb.cell (p := ⟨B, 0, none⟩) (World.block_lt_of_cell? W0 _ h.c0)).trans h.c0, (hb.cell (p := ⟨B, 1, none⟩) (World.block_lt_of_cell? W0 _ h.c1)).trans h.c1, (hb.cell (p := ⟨B, 2, none⟩) (World.block_lt_of_cell? W0 _ h.c2)).trans h.c2, hb⟩

set_option maxRecDepth 100000 in
set_option maxHeartbeats 1600000 in
theorem currencyLater_walk (v : Value) (n : Nat) (f : Nat → Int) (w : World) (h : ListAt w .i64 v n f) (amount c day from' rate : Int) : Calls Try.prog 9 #[v, .int .i64 amount, .int .i64 c, .int .i64 day, .int .i64 from', .int .i64 rate] w fun e w' => e = .returned (.bool true) ∧ Below w.heap.size w w' := by
  have HT := Lib.hid (madeTable_any v n f w h)
  have HW := Lib.hid (fun w => madeWithin_any day 120 (by omega) (by omega) w)
  have HF := Lib.hid (fun w => madeWithin_any from' 100 (by omega) (by omega) w)
  have HR := Lib.hid (fun w => madeWithin_any rate 1000 (by omega) (by omega) w)
  have HX := Lib.hid (fun w => currency_any c w)
  have HA := Lib.hid (fun w => awake5_any w)
  have hX := cur5_size (c % 5)
  have hdw : 0 ≤ day % 120 ∧ day % 120 < 120 := by omega
  have hfr : 0 ≤ from' % 100 ∧ from' % 100 < 100 := by omega
  have hra : 0 ≤ rate % 1000 ∧ rate % 1000 < 1000 := by omega
  generalize cur5 (c % 5) = X at *
  generalize day % 120 = dw at *
  generalize from' % 100 = fr at *
  generalize rate % 1000 = ra at *
  obtain ⟨hf1, hf2⟩ := hfr
  obtain ⟨hr1, hr2⟩ := hra
  go_enter Try.func9, Try.ntmps9
  go_wp2_with fail
  refine HT.out.mono ?_
  rintro e w1 ⟨u, L, SB, CB, rfl, hlen, hg, hlast, hM⟩
  go_wp2_with fail
  refine (HW.out _).mono ?_
  rintro e w2 ⟨rfl, rfl⟩
  go_wp2_with fail
  refine (HF.out _).mono ?_
  rintro e w2 ⟨rfl, rfl⟩
  go_wp2_with fail
  refine (HR.out _).mono ?_
  rintro e w2 ⟨rfl, rfl⟩
  go_wp2_with fail
  have HG2 := Lib.hid (hg.snoc (e := ⟨cur3 2, 1000 + fr, 1 + ra⟩) (cur3_good 2 (by omega)).1 ((dayB_iff _).2 (by show 0 ≤ 1000 + fr ∧ 1000 + fr ≤ _; omega)) ⟨by show 1 ≤ 1 + ra; omega, by show 1 + ra ≤ 1000000000; omega⟩ (hlast.late (by omega)))
  have hB1 := hM.src.below
  obtain ⟨ao, cap, hu, hao0⟩ : ∃ (ao : Option Addr) (cap : Nat), u = .slice ao L.length cap ∧ (ao = none → L.length = 0 ∧ cap = 0) := by
    rcases hM.row.2 with ⟨h1, h2⟩ | ⟨g, cap, cur, h1, _⟩
    · exact ⟨none, 0, by rw [h1, h2], fun _ => ⟨h2, rfl⟩⟩
    · exact ⟨_, cap, h1, fun h => by cases h⟩
  subst hu
  have hao := Lib.hid hao0
  clear hao0
  have HC1 : ∀ ad, ao = some ad → ∀ j x, (cellsX L)[j]? = some x → w1.cell? (ad.add j) = some x := by
    intro ad had j x hx
    subst had
    have hj : j < L.length * 3 := by
      have := (List.getElem?_eq_some_iff.1 hx).1
      rw [cellsX_length] at this
      exact this
    obtain ⟨g, hg2⟩ : ∃ g, ad = ⟨g, 0, none⟩ := by
      rcases hM.row.2 with ⟨h1, h2⟩ | ⟨g, cap', cur, h1, _⟩
      · cases h1
      · injection h1 with h1 _ _
        injection h1 with h1
        exact ⟨g, h1⟩
    subst hg2
    rw [Addr.add_lit, Nat.zero_add]
    exact (hM.row.cellAt j hj).trans hx
  have HT1 := Lib.hid (hM.tab hg)
  have hq : Below w1.heap.size w1 (w1.alloc (.cells #[.string ⟨#[85, 83, 68]⟩, .int .i64 (1000 + fr), .int .i64 (1 + ra)] 25)) := (Below.refl _ _).alloc (Nat.le_refl _) _
  have hKX : KeptX (w1.alloc (.cells #[.string ⟨#[85, 83, 68]⟩, .int .i64 (1000 + fr), .int .i64 (1 + ra)] 25)) w1.heap.size ⟨⟨#[85, 83, 68]⟩, 1000 + fr, 1 + ra⟩ (w1.alloc (.cells #[.string ⟨#[85, 83, 68]⟩, .int .i64 (1000 + fr), .int .i64 (1 + ra)] 25)) := ⟨by simp [go_sem], by simp [go_sem], by simp [go_sem], Below.refl _ _⟩
  have hBs : w1.heap.size < (w1.alloc (.cells #[.string ⟨#[85, 83, 68]⟩, .int .i64 (1000 + fr), .int .i64 (1 + ra)] 25)).heap.size := World.block_lt_of_cell? _ _ hKX.c0
  obtain ⟨B, hBe⟩ : ∃ B, B = w1.heap.size := ⟨_, rfl⟩
  rw [← hBe] at hKX hBs ⊢
  generalize w1.alloc (.cells #[.string ⟨#[85, 83, 68]⟩, .int .i64 (1000 + fr), .int .i64 (1 + ra)] 25) = W2 at *
  have HC2 := Lib.hid (fun W (hW : Below W2.heap.size W2 W) ad (had : ao = some ad) j x (hx : (cellsX L)[j]? = some x) => ((hq.trans (hW.mono hq.size)).cell (World.block_lt_of_cell? w1 _ (HC1 ad had j x hx))).trans (HC1 ad had j x hx))
  have HTK := Lib.hid (show ∀ W, Below W2.heap.size W2 W → ∀ ad, ao = some ad → ∀ p u, (cellsX L)[p]? = some u → W.cell? (ad.add p) = some u from HC2.out)
  have HTT := Lib.hid (fun W (hW : Below W2.heap.size W2 W) => HT1.out.keep (hq.trans (hW.mono hq.size)))
  have hBW := Lib.hid (hB1.trans (hq.mono hB1.size))
  clear HC1 HC2 HT1 hq hM hlast hBe hB1
  have hKK := Lib.hid (fun w' (hb : Below W2.heap.size W2 w') => hKX.of hb)
  obtain ⟨k0, k1, k2, hK0⟩ := hKX
  have hK := Lib.hid hK0
  clear hK0
  obtain ⟨i0, hi0, hz0, hz1, hz2⟩ := info_parts info_exch
  have KB : ∀ w', Below W2.heap.size W2 w' → ∀ o, Below W2.heap.size W2 (w'.alloc o) := fun w' h o => h.alloc h.size o
  have KD : ∀ w', Below W2.heap.size W2 w' → Below W2.heap.size W2 w'.drew := fun w' h => h.drew
  have M1 := Lib.hid (show (W2.alloc (.cells #[] 25)).ownsRow W2.heap.size 25 3 (.slice (some ⟨W2.heap.size, 0, none⟩) 0 0) 0 [] from World.ownsRow_lit W2 #[] 0 (Nat.le_refl _) (Nat.zero_le _) rfl)
  have M3 := Lib.hid (show ((W2.alloc (.cells #[.string ⟨#[85, 83, 68]⟩, .int .i64 (1000 + fr), .int .i64 (1 + ra)] 25)).alloc (.cells #[] 25)).ownsRow W2.heap.size 25 3 (.slice (some ⟨W2.heap.size + 1, 0, none⟩) 0 0) 0 [] from by
    have hs : (W2.alloc (.cells #[.string ⟨#[85, 83, 68]⟩, .int .i64 (1000 + fr), .int .i64 (1 + ra)] 25)).heap.size = W2.heap.size + 1 := by simp
    rw [← hs]
    exact World.ownsRow_lit _ #[] 0 (by rw [hs]; omega) (Nat.zero_le _) rfl)
  have M2 := Lib.hid (show ((W2.alloc (.cells #[] 25)).alloc (.cells #[.string ⟨#[85, 83, 68]⟩, .int .i64 (1000 + fr), .int .i64 (1 + ra)] 25)).ownsRow W2.heap.size 25 3 (.slice (some ⟨W2.heap.size, 0, none⟩) 0 0) 0 [] from M1.out.alloc _)
  have HX2 := Lib.hid (show KeptX ((W2.alloc (.cells #[] 25)).alloc (.cells #[.string ⟨#[85, 83, 68]⟩, .int .i64 (1000 + fr), .int .i64 (1 + ra)] 25)) (W2.heap.size + 1) ⟨⟨#[85, 83, 68]⟩, 1000 + fr, 1 + ra⟩ ((W2.alloc (.cells #[] 25)).alloc (.cells #[.string ⟨#[85, 83, 68]⟩, .int .i64 (1000 + fr), .int .i64 (1 + ra)] 25)) from by
    have hs : (W2.alloc (.cells #[] 25)).heap.size = W2.heap.size + 1 := by simp
    rw [← hs]
    exact ⟨by simp [go_sem], by simp [go_sem], by simp [go_sem], Below.refl _ _⟩)
  have HX3 := Lib.hid (show KeptX (W2.alloc (.cells #[.string ⟨#[85, 83, 68]⟩, .int .i64 (1000 + fr), .int .i64 (1 + ra)] 25)) W2.heap.size ⟨⟨#[85, 83, 68]⟩, 1000 + fr, 1 + ra⟩ ((W2.alloc (.cells #[.string ⟨#[85, 83, 68]⟩, .int .i64 (1000 + fr), .int .i64 (1 + ra)] 25)).alloc (.cells #[] 25)) from
    KeptX.of ⟨by simp [go_sem], by simp [go_sem], by simp [go_sem], Below.refl _ _⟩ ((Below.refl _ _).alloc (Nat.le_refl _) _))
  go_region_held3 (fun w' => w'.cell? ⟨B, 0, none⟩ = some (.string ⟨#[85, 83, 68]⟩) ∧ w'.cell? ⟨B, 1, none⟩ = some (.int .i64 (1000 + fr)) ∧ w'.cell? ⟨B, 2, none⟩ = some (.int .i64 (1 + ra)) ∧ Below W2.heap.size W2 w')
    (refine (fun h => ⟨(hKK.out _ h).c0, (hKK.out _ h).c1, (hKK.out _ h).c2, h⟩) ?_ <;> repeat (first | exact hK.out | assumption | refine KB _ ?_ _ | refine KD _ ?_))
    (first
      | (refine step_append_own rfl (.tmp 33) (.tmp 34) 22 rfl W2.heap.size 25 i0 _ 3 32 Try.underlying22 hi0 hz0 hz1 hz2 rfl (by omega) (.slice (some ⟨W2.heap.size, 0, none⟩) 0 0) 0 [] rfl M1.out (by simp; try omega) ao L.length cap (cellsX L) rfl (cellsX_length L) hao.out (HTK.out _ (by repeat (first | exact hK.out | assumption | refine KB _ ?_ _ | refine KD _ ?_))) (cellsX_one L) (by unfold maxLen; omega) (by omega) ?_; intro v1 w3 own1 grow1; have hk1 : Below W2.heap.size W2 w3 := Below.grown (by repeat (first | exact hK.out | assumption | refine KB _ ?_ _ | refine KD _ ?_)) grow1 (by first | exact Nat.le_refl _ | (simp; try omega)) (by intro q hq; simp [Value.ownBlock] at hq; omega))
      | (refine step_append_own rfl (.tmp 33) (.tmp 34) 22 rfl W2.heap.size 25 i0 _ 3 32 Try.underlying22 hi0 hz0 hz1 hz2 rfl (by omega) (.slice (some ⟨W2.heap.size, 0, none⟩) 0 0) 0 [] rfl M2.out (by simp; try omega) ao L.length cap (cellsX L) rfl (cellsX_length L) hao.out (HTK.out _ (by repeat (first | exact hK.out | assumption | refine KB _ ?_ _ | refine KD _ ?_))) (cellsX_one L) (by unfold maxLen; omega) (by omega) ?_; intro v1 w3 own1 grow1; have hk1 : Below W2.heap.size W2 w3 := Below.grown (by repeat (first | exact hK.out | assumption | refine KB _ ?_ _ | refine KD _ ?_)) grow1 (by first | exact Nat.le_refl _ | (simp; try omega)) (by intro q hq; simp [Value.ownBlock] at hq; omega); have X0 := (grow1.cell HX2.out.c0 (by simp [Value.ownBlock])); have X1 := (grow1.cell HX2.out.c1 (by simp [Value.ownBlock])); have X2 := (grow1.cell HX2.out.c2 (by simp [Value.ownBlock])))
      | (refine step_append_own rfl (.tmp 33) (.tmp 34) 22 rfl W2.heap.size 25 i0 _ 3 32 Try.underlying22 hi0 hz0 hz1 hz2 rfl (by omega) (.slice (some ⟨W2.heap.size + 1, 0, none⟩) 0 0) 0 [] rfl M3.out (by simp; try omega) ao L.length cap (cellsX L) rfl (cellsX_length L) hao.out (HTK.out _ (by repeat (first | exact hK.out | assumption | refine KB _ ?_ _ | refine KD _ ?_))) (cellsX_one L) (by unfold maxLen; omega) (by omega) ?_; intro v1 w3 own1 grow1; have hk1 : Below W2.heap.size W2 w3 := Below.grown (by repeat (first | exact hK.out | assumption | refine KB _ ?_ _ | refine KD _ ?_)) grow1 (by first | exact Nat.le_refl _ | (simp; try omega)) (by intro q hq; simp [Value.ownBlock] at hq; omega); have X0 := (grow1.cell HX3.out.c0 (by simp [Value.ownBlock])); have X1 := (grow1.cell HX3.out.c1 (by simp [Value.ownBlock])); have X2 := (grow1.cell HX3.out.c2 (by simp [Value.ownBlock])))
      | (refine step_append_own rfl (.tmp 35) (.tmp 37) 22 rfl W2.heap.size 25 i0 _ 3 32 Try.underlying22 hi0 hz0 hz1 hz2 rfl (by omega) v1 (0 + L.length) ([] ++ cellsX L) rfl (own1.alloc _) (Below.size (KB _ hk1 _)) (some ⟨w3.heap.size, 0, none⟩) 1 1 [.string ⟨#[85, 83, 68]⟩, .int .i64 (1000 + fr), .int .i64 (1 + ra)] rfl rfl (fun h => by cases h) (exch_news ⟨by simp [go_sem], by simp [go_sem], by simp [go_sem]⟩) (exch_one _ _ _) (by unfold maxLen; omega) (by omega) ?_; intro v2 w4 own2 grow2; have hk2 : Below W2.heap.size W2 w4 := Below.grown (KB _ hk1 _) grow2 (Below.size (KB _ hk1 _)) (fun q hq => (own1.lt q hq).1))
      | (refine step_append_own rfl (.tmp 35) (.tmp 37) 22 rfl W2.heap.size 25 i0 _ 3 32 Try.underlying22 hi0 hz0 hz1 hz2 rfl (by omega) v1 (0 + L.length) ([] ++ cellsX L) rfl own1 (Below.size (hk1)) (some ⟨W2.heap.size + 1, 0, none⟩) 1 1 [.string ⟨#[85, 83, 68]⟩, .int .i64 (1000 + fr), .int .i64 (1 + ra)] rfl rfl (fun h => by cases h) (exch_news ⟨X0, X1, X2⟩) (exch_one _ _ _) (by unfold maxLen; omega) (by omega) ?_; intro v2 w4 own2 grow2; have hk2 : Below W2.heap.size W2 w4 := Below.grown (hk1) grow2 (Below.size (hk1)) (fun q hq => (own1.lt q hq).1))
      | (refine step_append_own rfl (.tmp 35) (.tmp 37) 22 rfl W2.heap.size 25 i0 _ 3 32 Try.underlying22 hi0 hz0 hz1 hz2 rfl (by omega) v1 (0 + L.length) ([] ++ cellsX L) rfl own1 (Below.size (hk1)) (some ⟨W2.heap.size, 0, none⟩) 1 1 [.string ⟨#[85, 83, 68]⟩, .int .i64 (1000 + fr), .int .i64 (1 + ra)] rfl rfl (fun h => by cases h) (exch_news ⟨X0, X1, X2⟩) (exch_one _ _ _) (by unfold maxLen; omega) (by omega) ?_; intro v2 w4 own2 grow2; have hk2 : Below W2.heap.size W2 w4 := Below.grown (hk1) grow2 (Below.size (hk1)) (fun q hq => (own1.lt q hq).1)))
  all_goals
    have HV : TabAt w4 v2 (L ++ [(⟨cur3 2, 1000 + fr, 1 + ra⟩ : Exch)]).length (sX (L ++ [⟨cur3 2, 1000 + fr, 1 + ra⟩])) (fX (L ++ [⟨cur3 2, 1000 + fr, 1 + ra⟩])) (rX (L ++ [⟨cur3 2, 1000 + fr, 1 + ra⟩])) := by
      refine tab_of_row (base := W2.heap.size) ?_ HG2.out.size
      rw [List.length_append, cellsX_snoc]
      have own3 := own2
      rw [Nat.zero_add, List.nil_append] at own3
      exact own3
    rw [List.length_append] at HV
    have HU := HTT.out _ hk2
    have hB4 := hBW.out.trans (hk2.mono hBW.out.size)
    have t1 := hg.tab (by omega)
    have t2 := HG2.out.tab (by rw [List.length_append]; show L.length + 1 ≤ 1000; omega)
    rw [List.length_append] at t2
    obtain ⟨l1, l2⟩ := cr_late (e := ⟨cur3 2, 1000 + fr, 1 + ra⟩) X ownC (amount.tmod 1000000) (day := dw) 2 t1 t2 (by show dw < 1000 + fr; omega)
    have H1 := Lib.hid (fun w5 (hb : Below w4.heap.size w4 w5) => curConvert_any _ _ _ _ _ X hX (amount.tmod 1000000) dw 2 w5 (HU.keep hb))
    have H2 := Lib.hid (fun w5 (hb : Below w4.heap.size w4 w5) => curConvert_any v2 (L.length + 1) _ _ _ X hX (amount.tmod 1000000) dw 2 w5 (HV.keep hb))
    rw [l1, l2] at H2
    generalize crV (sX L) (fX L) (rX L) L.length X ownC (amount.tmod 1000000) dw 2 = P at *
    generalize crE (sX L) (fX L) (rX L) L.length X ownC (amount.tmod 1000000) dw 2 = E at *
    clear HV HU t1 t2 l1 l2 own1 own2 grow1 grow2 hk1 hk2 HTT HTK hBW HG2 M1 M2 M3 HX2 HX3 hKK hK k0 k1 k2 hg KB KD
    go_wp2_with fail
    refine (HX.out _).mono ?_
    rintro e w5 ⟨rfl, hb5⟩
    go_wp2_with fail
    refine (H1.out _ hb5).mono ?_
    rintro e w6 ⟨rfl, hb6⟩
    have hb6 := hb5.trans (hb6.mono hb5.size)
    go_wp2_with fail
    refine (HX.out _).mono ?_
    rintro e w7 ⟨rfl, hb7⟩
    have hb7 := hb6.trans (hb7.mono hb6.size)
    go_wp2_with fail
    refine (H2.out _ hb7).mono ?_
    rintro e w8 ⟨rfl, hb8⟩
    have hb8 := hb7.trans (hb8.mono hb7.size)
    go_wp2_with fail
    refine (HA.out _).mono ?_
    rintro e w9 ⟨rfl, hb9⟩
    have hb9 := hb8.trans (hb9.mono hb8.size)
    go_wp2_with fail
    go_ret
    exact ⟨rfl, hB4.trans (hb9.mono hB4.size)⟩
end Go.Proofs.Ytjjidbnjkhdkaaa
