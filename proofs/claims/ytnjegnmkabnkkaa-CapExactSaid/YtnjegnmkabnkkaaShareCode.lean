/- What the functions Share, Spread and Cap of the package apportion return. Condition: the list's cells are known; the total is a number of Go's. -/
import Derived.Test.YtnjegnmkabnkkaaShareGo
import Derived.Test.YtnjegnmkabnkkaaMoneySumCode
import Derived.Lib.LazyBuf
namespace Go.Proofs.Ytnjegnmkabnkkaa
open Go.RowKit

theorem list_form {w : World} {v : Value} {n : Nat} {g : Nat → Int} (h : ListAt w .i64 v n g) : ∃ a cap, v = .slice a n cap := by
  rcases h with ⟨h, h0⟩ | ⟨a, cap, h, _⟩
  · exact ⟨none, 0, by rw [h, h0]⟩
  · exact ⟨some a, cap, h⟩

set_option maxRecDepth 100000 in
set_option maxHeartbeats 800000 in
theorem share_any (T : Int) (v : Value) (n : Nat) (g : Nat → Int) (w : World) (h : ListAt w .i64 v n g) : Calls Try.prog 12 #[.int .i64 T, v] w (ShareGives w T n g) := by
  obtain ⟨a, cap, rfl⟩ := list_form h
  obtain ⟨x1, x2⟩ := vaE_sh T n g
  have HV := Lib.hid (validate_any T _ n g w h)
  unfold ShareGives
  by_cases he : vaE T n g = 0
  · obtain ⟨k1, k2, k3, k4, k5⟩ := x2 he
    by_cases h7 : n = 0 ∧ 0 < T
    · rw [if_pos h7] at k5
      have hn : shN T n g = 0 := by unfold shN; rw [k5]; rfl
      rw [k5, hn]
      obtain ⟨rfl, hT⟩ := h7
      have d2 : decide (0 < T) = true := decide_eq_true hT
      rw [he] at HV
      clear x1 x2 he h hn k5
      go_enter Try.func12, Try.ntmps12
      go_wp2_with fail
      refine HV.out.mono ?_
      rintro e w1 ⟨rfl, rfl⟩
      go_wp2_with fail
      go_ret2
      exact ⟨_, rfl, .inl ⟨rfl, rfl⟩, Below.refl _ _⟩
    · rw [if_neg h7] at k5
      have hn : shN T n g = n := by unfold shN; rw [k5]; rfl
      rw [k5, hn]
      obtain ⟨t, rfl⟩ := Int.eq_ofNat_of_zero_le k2
      refine (share_ok t _ n g w h k1 (by omega) k4 (by omega) he).mono ?_
      rintro e w1 ⟨B, rfl, h4, h5, h6⟩
      refine ⟨_, rfl, .inr ⟨B, n, rfl, Nat.le_refl _, by unfold maxLen; omega, h5, h4, fun i hi => ?_⟩, h6⟩
      have := sh_le (T := (t : Int)) (g := g) (by omega) (show 1 ≤ n by omega) i hi
      exact small_wf (by omega)
  · have e1 := x1 he
    have hn : shN T n g = 0 := if_neg (by rw [e1]; exact he)
    rw [e1, hn]
    have b1 : (vaE T n g != 0) = true := by rw [bne_iff_ne]; exact he
    clear x1 x2 he h hn e1
    generalize vaE T n g = E at *
    go_enter Try.func12, Try.ntmps12
    go_wp2_with fail
    refine HV.out.mono ?_
    rintro e w1 ⟨rfl, rfl⟩
    go_wp2_with fail
    go_ret2
    exact ⟨_, rfl, .inl ⟨rfl, rfl⟩, Below.refl _ _⟩

/-- What Share makes of a total that is no amount. -/
theorem sh_off (T U : Int) (n : Nat) (g : Nat → Int) (h1 : T < 0 ∨ 1000000000000 < T) (h2 : U < 0 ∨ 1000000000000 < U) : shE T n g = shE U n g ∧ shN T n g = 0 := by
  have e : ∀ V : Int, (V < 0 ∨ 1000000000000 < V) → shE V n g = if 1000 < n then 8 else 2 := fun V hV => by
    unfold shE
    by_cases hn : 1000 < n
    · rw [if_pos hn, if_pos hn]
    · rw [if_neg hn, if_neg hn, if_pos (by omega)]
  rw [e T h1, e U h2]
  refine ⟨rfl, if_neg ?_⟩
  rw [e T h1]
  split <;> omega

set_option maxRecDepth 100000 in
set_option maxHeartbeats 800000 in
theorem spread_pos (T : Int) (v : Value) (n : Nat) (g : Nat → Int) (w : World) (h : ListAt w .i64 v n g) (hT : 0 ≤ T) : Calls Try.prog 16 #[.int .i64 T, v] w (SpreadGives w T n g) := by
  have e1 : spT T = T := if_neg (by omega)
  have e2 : spI T n g = shI T n g := by funext i; exact if_neg (by omega)
  unfold SpreadGives
  rw [e1, e2]
  have HS := Lib.hid (share_any T v n g w h)
  clear e1 e2 h
  go_enter Try.func16, Try.ntmps16
  go_wp2_with fail
  refine HS.out.mono ?_
  rintro e w1 ⟨u, rfl, h1, h2⟩
  go_wp2_with fail
  go_ret2
  exact ⟨u, rfl, h1, h2⟩

/-- The shares of a total below zero, as Spread makes them out of those of U. -/
def SpreadBack (w : World) (U : Int) (n : Nat) (g : Nat → Int) (e : Ending) (w1 : World) : Prop :=
  ∃ u, e = .returned (.tuple #[u, .int .i64 (shE U n g)]) ∧ ListOut w w1 u (shN U n g) (fun i => -shI U n g i) ∧ Below w.heap.size w w1
theorem sh_bounds (U : Int) (n : Nat) (g : Nat → Int) : shN U n g ≤ 1000 ∧ ∀ i, i < shN U n g → 0 ≤ shI U n g i ∧ shI U n g i ≤ 1000000000000 := by
  by_cases hz : shE U n g = 0
  · have hnn : shN U n g = n := if_pos hz
    obtain ⟨k1, k2, k3, k4, k5⟩ := sh_ok hz
    rw [hnn]
    refine ⟨k1, fun i hi => ?_⟩
    have := sh_le (T := U) (g := g) k2 (show 1 ≤ n by omega) i hi
    omega
  · have hnn : shN U n g = 0 := if_neg hz
    rw [hnn]
    exact ⟨by omega, fun i hi => absurd hi (by omega)⟩

set_option maxRecDepth 100000 in
set_option maxHeartbeats 1600000 in
theorem spread_neg (T U : Int) (v : Value) (n : Nat) (g : Nat → Int) (w : World) (h : ListAt w .i64 v n g) (hTU : (T = -9223372036854775808 ∧ U = T) ∨ (-9223372036854775808 < T ∧ T < 0 ∧ U = -T)) :
    Calls Try.prog 16 #[.int .i64 T, v] w (SpreadBack w U n g) := by
  have HS := Lib.hid (share_any U v n g w h)
  obtain ⟨hm, hb⟩ := sh_bounds U n g
  unfold ShareGives at HS
  unfold SpreadBack
  generalize shN U n g = m at *
  generalize shE U n g = E at *
  generalize shI U n g = f at *
  have HT : decide (0 ≤ T) = false := decide_eq_false (by omega)
  have HU : IntKind.i64.wrap (-T) = U := by rw [IntKind.wrap_i64]; omega
  clear h hTU
  go_enter Try.func16, Try.ntmps16
  go_wp2_with fail
  refine HS.out.mono ?_
  rintro e w1 ⟨u, rfl, hO, hB⟩
  clear HS
  rcases hO with ⟨rfl, rfl⟩ | ⟨B, cap, rfl, c1, c2, c3, c4, c5⟩
  · go_wp2_with fail
    go_loop [25] (fun i => i = .int .i64 0) (fun _ => 0)
    case atStart => rfl
    case round =>
      subst hrel
      go_wp2_with fail
      go_ret2
      exact ⟨_, rfl, .inl ⟨rfl, rfl⟩, hB⟩
  · go_wp2_with fail
    go_loopw [25] (fun i wx => ∃ k : Nat, k ≤ m ∧ i = .int .i64 k ∧ Hid (Ints wx B m (fun j => if j < k then -f j else f j)) ∧ Below w.heap.size w wx) (fun i _ => m - (intOf i).toNat)
    case atStart => exact ⟨0, Nat.zero_le _, by go_num, Lib.hid (c4.congr (fun j _ => by rw [if_neg (by omega)])), hB⟩
    case round =>
      obtain ⟨k, hk, rfl, hI, hB2⟩ := hrel
      by_cases hlt : k < m
      · obtain ⟨d1, d2⟩ := hI.out.1 k hlt
        simp only [Nat.lt_irrefl, if_false] at d1
        have hx := hb k hlt
        have hnx := Lib.hid (hI.out.set k (-f k) (fun j => if j < k + 1 then -f j else f j) (fun j _ => by
          by_cases e : j = k
          · subst e; simp
          · by_cases h2 : j < k
            · rw [if_pos (by omega), if_neg e, if_pos h2]
            · rw [if_neg (by omega), if_neg e, if_neg h2]))
        clear hb HT HU
        generalize f k = x at *
        go_wp2_with fail
        go_roundw
        case rel => exact ⟨k + 1, by omega, by go_num, hnx, hB2.setCell c3 _⟩
        case measure => simp [intOf]; omega
      · have : k = m := by omega
        subst this
        go_wp2_with fail
        go_ret2
        refine ⟨_, rfl, .inr ⟨B, cap, rfl, c1, c2, c3, hI.out.congr (fun j hj => by rw [if_pos hj]), fun j hj => ?_⟩, hB2⟩
        have := hb j hj
        exact small_wf (x := -f j) (by omega)

theorem spread_any (T : Int) (hT : -9223372036854775808 ≤ T) (v : Value) (n : Nat) (g : Nat → Int) (w : World) (h : ListAt w .i64 v n g) : Calls Try.prog 16 #[.int .i64 T, v] w (SpreadGives w T n g) := by
  by_cases h1 : 0 ≤ T
  · exact spread_pos T v n g w h h1
  · by_cases h2 : T < -1000000000000
    · have e1 : spT T = 1000000000001 := (if_pos (by omega)).trans (if_pos h2)
      obtain ⟨U, hU⟩ : ∃ U, (T = -9223372036854775808 ∧ U = T) ∨ (-9223372036854775808 < T ∧ T < 0 ∧ U = -T) := by
        by_cases h3 : T = -9223372036854775808
        · exact ⟨T, .inl ⟨h3, rfl⟩⟩
        · exact ⟨-T, .inr ⟨by omega, by omega, rfl⟩⟩
      obtain ⟨s1, s2⟩ := sh_off U 1000000000001 n g (by omega) (by omega)
      obtain ⟨s3, s4⟩ := sh_off 1000000000001 1000000000001 n g (by omega) (by omega)
      refine (spread_neg T U v n g w h hU).mono ?_
      rintro e w1 ⟨u, rfl, o1, o2⟩
      unfold SpreadGives
      rw [e1, s4, ← s1]
      rw [s2] at o1
      exact ⟨u, rfl, o1.congr (fun i hi => absurd hi (by omega)), o2⟩
    · have e1 : spT T = -T := (if_pos (by omega)).trans (if_neg h2)
      have e2 : ∀ i, spI T n g i = -shI (-T) n g i := fun i => if_pos (by omega)
      refine (spread_neg T (-T) v n g w h (.inr ⟨by omega, by omega, rfl⟩)).mono ?_
      rintro e w1 ⟨u, rfl, o1, o2⟩
      unfold SpreadGives
      rw [e1]
      exact ⟨u, rfl, o1.congr (fun i _ => (e2 i).symm), o2⟩

theorem cap_sum {g : Nat → Int} {n : Nat} (hg : amts0 g n = true) : suE g n = (if sumI g n ≤ 1000000000000 then 0 else 3) ∧ (sumI g n ≤ 1000000000000 → suV g n = sumI g n) := by
  have ha : ∀ m, m ≤ n → allAmt g m = true ∧ sumT g m = sumI g m := by
    intro m
    induction m with
    | zero => exact fun _ => ⟨rfl, rfl⟩
    | succ m ih =>
      intro hm
      obtain ⟨i1, i2⟩ := ih (by omega)
      have hx := amts0_at hg m (by omega)
      constructor
      · show (allAmt g m && amtB (g m)) = true
        rw [i1, (amtB_iff (g m)).2 (by omega)]
        rfl
      · show sumT g m + g m = sumI g m + g m
        rw [i2]
  obtain ⟨i1, i2⟩ := ha n (Nat.le_refl n)
  have h0 := (sumN_at hg (Nat.le_refl n)).1
  unfold suE suV
  rw [i1, i2]
  by_cases hs : sumI g n ≤ 1000000000000
  · have hb : amtB (sumI g n) = true := (amtB_iff _).2 (by omega)
    rw [hb, if_pos hs]
    exact ⟨rfl, fun _ => rfl⟩
  · have hb : amtB (sumI g n) = false := (amtB_false _).2 (by omega)
    rw [hb, if_neg hs]
    exact ⟨rfl, fun h => absurd h hs⟩

theorem sum_any (v : Value) (n : Nat) (g : Nat → Int) (w : World) (h : ListAt w .i64 v n g) (hn : n ≤ 1000) : Calls Try.prog 26 #[v] w fun e w' => e = .returned (.tuple #[.int .i64 (suV g n), .int .i64 (suE g n)]) ∧ Below w.heap.size w w' := by
  rcases h with ⟨rfl, rfl⟩ | ⟨a, cap, rfl, h1, h2, h3⟩
  · exact moneySum_nil w
  · exact moneySum_some a n cap g (by omega) w (fun j hj => (h3 j hj).1)

set_option maxHeartbeats 800000 in
theorem clone_any (v : Value) (n : Nat) (g : Nat → Int) (w : World) (h : ListAt w .i64 v n g) (hn : n ≤ 1000) : Calls Try.prog 27 #[v] w fun e w' => ∃ u, e = .returned u ∧ ListOut w w' u n g ∧ Below w.heap.size w w' := by
  have hq := fun (W : World) (a : Option Addr) (n c : Nat) => Lib.run_eql_slice_nil W 22 3 a n c 0 0 Try.underlying22
  rcases h with ⟨rfl, rfl⟩ | ⟨a, cap, rfl, h1, h2, h3⟩
  · go_enter Try.func27, Try.ntmps27
    go_wp2_with fail
    go_ret
    exact ⟨_, rfl, .inl ⟨rfl, rfl⟩, Below.refl _ _⟩
  · obtain ⟨i0, hi, hz0, hz1, hz2⟩ := info_parts info_int
    have hx := Lib.hid (out_of_row (w := w) (n := n) (g := g) (fun i hi => (h3 i hi).2))
    have hcs : ∀ i u, ((List.range n).map fun i => Value.int .i64 (g i))[i]? = some u → (w.alloc (.cells #[] 3)).cell? (a.add i) = some u := by
      intro i u hu
      rw [List.getElem?_map] at hu
      by_cases hij : i < n
      · rw [List.getElem?_range hij] at hu
        simp at hu
        subst hu
        have h5 := (h3 i hij).1
        have h4 := World.block_lt_of_cell? w _ h5
        exact (((Below.refl w.heap.size w).alloc (Nat.le_refl _) _).cell h4).trans h5
      · rw [List.getElem?_eq_none (by simp; omega)] at hu
        simp at hu
    have HCS := Lib.hid hcs
    clear hcs h3
    by_cases hz : n = 0
    · subst hz
      go_enter Try.func27, Try.ntmps27
      go_wp2_with fail
      go_ret
      exact ⟨_, rfl, .inr ⟨w.heap.size, 0, rfl, Nat.le_refl _, Nat.zero_le _, Nat.le_refl _, ⟨fun j hj => absurd hj (by omega), by simp⟩, fun i hi => absurd hi (by omega)⟩, (Below.refl _ _).alloc (Nat.le_refl _) _⟩
    go_enter Try.func27, Try.ntmps27
    go_wp2_with (at_builtin; refine wpList_append_grows _ rfl (.tmp 5) (.tmp 6) 22 rfl 3 i0 (.int .i64 0) 1 8 Try.underlying22 hi hz0 hz1 hz2 rfl (by decide) (some ⟨w.heap.size, 0, none⟩) 0 0 [] rfl (fun h => by cases h) rfl (by intro _ _ _ _ h; simp at h) a n cap ((List.range n).map fun i => Value.int .i64 (g i)) rfl (by simp) HCS.out (by intro u hu; simp at hu; obtain ⟨_, _, rfl⟩ := hu; rfl) (by omega) (by unfold maxLen; omega) (by omega) ?grow)
    case grow =>
      intro v' w' hown hgrow
      have hB : Below w.heap.size w w' := ((Below.refl w.heap.size w).alloc (Nat.le_refl _) (.cells #[] 3)).grown hgrow (by simp) (fun k h => by cases h)
      have hO : ListOut w w' v' n g := hx.out v' w' _ (by simpa using hown) (by first | omega | (simp; omega))
      go_wp2_with fail
      go_ret
      exact ⟨_, rfl, hO, hB⟩

theorem ListOut.later {w w0 w1 : World} {u : Value} {n : Nat} {f : Nat → Int} (h : ListOut w0 w1 u n f) (hb : w.heap.size ≤ w0.heap.size) : ListOut w w1 u n f := by
  rcases h with h | ⟨B, cap, h1, h2, h3, h4, h5, h6⟩
  · exact .inl h
  · exact .inr ⟨B, cap, h1, h2, h3, Nat.le_trans hb h4, h5, h6⟩

set_option maxRecDepth 100000 in
set_option maxHeartbeats 1600000 in
theorem cap_any (T : Int) (v : Value) (n : Nat) (g : Nat → Int) (w : World) (h : ListAt w .i64 v n g) : Calls Try.prog 18 #[.int .i64 T, v] w (CapGives w T n g) := by
  obtain ⟨a, cap, rfl⟩ := list_form h
  obtain ⟨x1, x2⟩ := vaE_sh T n g
  have HV := Lib.hid (validate_any T _ n g w h)
  unfold CapGives
  by_cases he : vaE T n g = 0
  · obtain ⟨k1, k2, k3, k4, k5⟩ := x2 he
    obtain ⟨y1, y2⟩ := cap_sum k4
    have e1 : cpE T n g = 0 := by
      unfold cpE
      rw [k5]
      by_cases h7 : n = 0 ∧ 0 < T
      · rw [if_pos h7]; rfl
      · rw [if_neg h7]; rfl
    have hn : cpN T n g = n := by unfold cpN; rw [e1]; rfl
    rw [e1, hn]
    have HM := Lib.hid (sum_any _ n g w h k1)
    rw [y1] at HM
    have HC := Lib.hid (fun w1 (hb : Below w.heap.size w w1) => clone_any _ n g w1 (h.keep hb) k1)
    have HS := Lib.hid (fun w1 (hb : Below w.heap.size w w1) => share_any T _ n g w1 (h.keep hb))
    rw [he] at HV
    clear x1 x2 he h hn e1 y1
    by_cases hs : sumI g n ≤ T
    · have hs1 : sumI g n ≤ 1000000000000 := by omega
      have hv := y2 hs1
      rw [if_pos hs1, hv] at HM
      have d1 : decide (sumI g n ≤ T) = true := decide_eq_true hs
      have hci := Lib.hid (fun i => (show g i = cpI T n g i from (if_pos hs).symm))
      clear hs hs1 hv y2 k5 HS
      generalize sumI g n = s at *
      go_enter Try.func18, Try.ntmps18
      go_wp2_with fail
      refine HV.out.mono ?_
      rintro e w1 ⟨rfl, rfl⟩
      go_wp2_with fail
      refine HM.out.mono ?_
      rintro e w1 ⟨rfl, hb⟩
      have HB := Lib.hid hb
      clear hb
      go_wp2_with fail
      refine (HC.out _ HB.out).mono ?_
      rintro e w2 ⟨u, rfl, o1, o2⟩
      go_wp2_with fail
      go_ret2
      exact ⟨u, rfl, (o1.later HB.out.size).congr (fun i _ => hci.out i), HB.out.trans (o2.mono HB.out.size)⟩
    · have hz : n ≠ 0 := fun h0 => by
        subst h0
        exact hs k2
      have e0 : shE T n g = 0 := by rw [k5, if_neg (by omega)]
      have hsn : shN T n g = n := if_pos e0
      unfold ShareGives at HS
      rw [e0, hsn] at HS
      have hci := Lib.hid (fun i => (show shI T n g i = cpI T n g i from (if_neg hs).symm))
      clear k5 e0 hsn HC
      by_cases hs1 : sumI g n ≤ 1000000000000
      · have hv := y2 hs1
        rw [if_pos hs1, hv] at HM
        have d1 : decide (sumI g n ≤ T) = false := decide_eq_false hs
        clear hs hs1 hv y2
        generalize sumI g n = s at *
        go_enter Try.func18, Try.ntmps18
        go_wp2_with fail
        refine HV.out.mono ?_
        rintro e w1 ⟨rfl, rfl⟩
        go_wp2_with fail
        refine HM.out.mono ?_
        rintro e w1 ⟨rfl, hb⟩
        have HB := Lib.hid hb
        clear hb
        go_wp2_with fail
        refine (HS.out _ HB.out).mono ?_
        rintro e w2 ⟨u, rfl, o1, o2⟩
        go_wp2_with fail
        go_ret2
        exact ⟨u, rfl, (o1.later HB.out.size).congr (fun i _ => hci.out i), HB.out.trans (o2.mono HB.out.size)⟩
      · rw [if_neg hs1] at HM
        clear hs hs1 y2
        generalize suV g n = s at *
        go_enter Try.func18, Try.ntmps18
        go_wp2_with fail
        refine HV.out.mono ?_
        rintro e w1 ⟨rfl, rfl⟩
        go_wp2_with fail
        refine HM.out.mono ?_
        rintro e w1 ⟨rfl, hb⟩
        have HB := Lib.hid hb
        clear hb
        go_wp2_with fail
        refine (HS.out _ HB.out).mono ?_
        rintro e w2 ⟨u, rfl, o1, o2⟩
        go_wp2_with fail
        go_ret2
        exact ⟨u, rfl, (o1.later HB.out.size).congr (fun i _ => hci.out i), HB.out.trans (o2.mono HB.out.size)⟩
  · have e1 := x1 he
    have h7 : shE T n g ≠ 7 := by
      rw [e1]
      unfold vaE
      split
      · omega
      · split <;> omega
    have e2 : cpE T n g = vaE T n g := (if_neg h7).trans e1
    have hn : cpN T n g = 0 := if_neg (by rw [e2]; exact he)
    rw [e2, hn]
    have b1 : (vaE T n g != 0) = true := by rw [bne_iff_ne]; exact he
    clear x1 x2 he h hn e1 e2 h7
    generalize vaE T n g = E at *
    go_enter Try.func18, Try.ntmps18
    go_wp2_with fail
    refine HV.out.mono ?_
    rintro e w1 ⟨rfl, rfl⟩
    go_wp2_with fail
    go_ret2
    exact ⟨_, rfl, .inl ⟨rfl, rfl⟩, Below.refl _ _⟩
end Go.Proofs.Ytnjegnmkabnkkaa
