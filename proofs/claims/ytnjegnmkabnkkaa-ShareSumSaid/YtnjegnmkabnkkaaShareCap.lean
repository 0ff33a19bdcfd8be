/- What Cap of the reference of layer 3 returns. Condition: the list's cells are known. -/
import Derived.Test.YtnjegnmkabnkkaaShareSame
import Derived.ArgAppend
namespace Go.Proofs.Ytnjegnmkabnkkaa
open Go.RowKit

/-- What a call of Cap hands back. -/
def CapGives (w : World) (T : Int) (n : Nat) (g : Nat → Int) (e : Ending) (w1 : World) : Prop :=
  ∃ u, e = .returned (.tuple #[u, .int .i64 (cpE T n g)]) ∧ ListOut w w1 u (cpN T n g) (cpI T n g) ∧ Below w.heap.size w w1

theorem out_of_row {w : World} {n : Nat} {g : Nat → Int} (hwf : ∀ i, i < n → (Lit.int .i64 (g i)).wf = true) (v : Value) (w1 : World) (base : Nat) (h : w1.ownsRow base 3 1 v n ((List.range n).map fun i => Value.int .i64 (g i))) (hb : w.heap.size ≤ base) : ListOut w w1 v n g := by
  obtain ⟨_, h | ⟨b, cap, cur, h1, h2, h3, h4, h5, h6, h7⟩⟩ := h
  · exact .inl h
  · refine .inr ⟨b, cap, h1, h4, h5, by omega, ⟨fun j hj => ?_, ?_⟩, hwf⟩
    · have hcur : cur[j]? = some (.int .i64 (g j)) := by
        have e := congrArg (·[j]?) h7
        simp only [Nat.mul_one] at e
        rw [List.getElem?_take_of_lt hj, List.getElem?_map, List.getElem?_range hj] at e
        simpa using e
      constructor
      · simp [World.cell?, h3, hcur]
      · simp [World.frozen?, h3]
    · exact (Array.getElem?_eq_some_iff.1 h3).1

set_option maxHeartbeats 800000 in
theorem refCap_error (T : Int) (v : Value) (n : Nat) (g : Nat → Int) (w : World) (h : ListAt w .i64 v n g) (h0 : shE T n g ≠ 0) (h7 : shE T n g ≠ 7) :
    Calls Try.prog 19 #[.int .i64 T, v] w (CapGives w T n g) := by
  have e1 : cpE T n g = shE T n g := if_neg h7
  have hn : cpN T n g = 0 := by unfold cpN; rw [e1]; exact if_neg h0
  unfold CapGives
  rw [e1, hn]
  have HS := Lib.hid (refShare_any T v n g w h)
  have b1 : (shE T n g != 0) = true := by rw [bne_iff_ne]; exact h0
  have b2 : (shE T n g != 7) = true := by rw [bne_iff_ne]; exact h7
  clear e1 h hn
  go_enter Try.func19, Try.ntmps19
  go_wp2_with fail
  refine HS.out.mono ?_
  rintro e w1 ⟨u, rfl, h1, h2⟩
  go_wp2_with fail
  go_ret2
  exact ⟨_, rfl, .inl ⟨rfl, rfl⟩, h2⟩

set_option maxHeartbeats 800000 in
theorem refCap_all (T : Int) (a : Addr) (n cap : Nat) (g : Nat → Int) (w : World) (h : ListAt w .i64 (.slice (some a) n cap) n g) (hn1 : 1 ≤ n) (h0 : shE T n g = 0) (hs : sumI g n ≤ T) (hc : ∀ i, i < n → w.cell? (a.add i) = some (.int .i64 (g i))) :
    Calls Try.prog 19 #[.int .i64 T, .slice (some a) n cap] w (CapGives w T n g) := by
  have e1 : cpE T n g = 0 := by unfold cpE; rw [h0]; rfl
  have hn : cpN T n g = n := by unfold cpN; rw [e1]; rfl
  unfold CapGives
  rw [e1, hn]
  have hS := refShare_any T (.slice (some a) n cap) n g w h
  unfold ShareGives at hS
  rw [h0] at hS
  obtain ⟨k1, k2, k3, k4, k5⟩ := sh_ok h0
  have HS := Lib.hid hS
  have hat := amts0_at k4
  clear e1 h hn hS
  go_enter Try.func19, Try.ntmps19
  go_wp2_with fail
  refine HS.out.mono ?_
  rintro e w1 ⟨u, rfl, h1, h2⟩
  have hc1 : ∀ i, i < n → w1.cell? (a.add i) = some (.int .i64 (g i)) := fun i hi => (h2.cell (World.block_lt_of_cell? w _ (hc i hi))).trans (hc i hi)
  go_wp2_with fail
  go_loop [8, 9] (fun s i => ∃ k : Nat, k ≤ n ∧ i = .int .i64 k ∧ ∃ S : Int, s = .int .i64 S ∧ Hid (S = sumI g k)) (fun _ i => n - (intOf i).toNat)
  case atStart => exact ⟨0, Nat.zero_le _, rfl, 0, rfl, Lib.hid rfl⟩
  case round =>
    obtain ⟨j, hj, rfl, S, rfl, hS⟩ := hrel
    have hsum := sumN_at k4 hj
    have hS0 : 0 ≤ S ∧ S ≤ 1000000000000000 := by rw [hS.out]; omega
    clear hsum
    by_cases hlt : j < n
    · have hcell := hc1 j hlt
      have hx := hat j hlt
      have hS2 := Lib.hid (show S + g j = sumI g (j + 1) by rw [hS.out]; rfl)
      clear hc hc1 hS
      generalize g j = x at *
      go_wp2
      go_round
      case rel => exact ⟨j + 1, by omega, by go_num, _, rfl, hS2⟩
      case measure => simp [intOf]; omega
    · have : j = n := by omega
      subst this
      have hle : S ≤ T := by rw [hS.out]; exact hs
      have he : decide ((j : Int) < (j : Int)) = false := decide_eq_false (by omega)
      have hd : decide (S ≤ T) = true := decide_eq_true hle
      obtain ⟨i0, hi, hz0, hz1, hz2⟩ := info_parts info_int
      have hx := Lib.hid (out_of_row (w := w) (n := j) (g := g) (fun i hi => small_wf (by have := hat i hi; omega)))
      have hsp := Lib.hid (show ∀ i, cpI T j g i = g i from fun i => if_pos hs)
      have hsz := h2.size
      have hcs : ∀ i u, ((List.range j).map fun i => Value.int .i64 (g i))[i]? = some u → (w1.alloc (.cells #[] 3)).cell? (a.add i) = some u := by
        intro i u hu
        rw [List.getElem?_map] at hu
        by_cases hij : i < j
        · rw [List.getElem?_range hij] at hu
          simp at hu
          subst hu
          have h3 := hc1 i hij
          have h4 := World.block_lt_of_cell? w1 _ h3
          exact (((Below.refl w1.heap.size w1).alloc (Nat.le_refl _) _).cell h4).trans h3
        · rw [List.getElem?_eq_none (by simp; omega)] at hu
          simp at hu
      have HCS := Lib.hid hcs
      clear hcs hc hc1 hat hS
      go_wp2_with (at_builtin; refine wpList_append_grows _ rfl (.tmp 38) (.tmp 39) 22 rfl 3 i0 (.int .i64 0) 1 8 Try.underlying22 hi hz0 hz1 hz2 rfl (by decide) (some ⟨w1.heap.size, 0, none⟩) 0 0 [] rfl (fun h => by cases h) rfl (by intro _ _ _ _ h; simp at h) a j cap ((List.range j).map fun i => Value.int .i64 (g i)) rfl (by simp) HCS.out (by intro u hu; simp at hu; obtain ⟨_, _, rfl⟩ := hu; rfl) (by omega) (by unfold maxLen; omega) (by omega) ?grow)
      case grow =>
        intro v' w' hown hgrow
        have hB : Below w.heap.size w w' := (h2.trans (((Below.refl w1.heap.size w1).alloc (Nat.le_refl _) (.cells #[] 3)).mono hsz)).grown hgrow (by simp; omega) (fun k h => by cases h)
        have hO : ListOut w w' v' j g := hx.out v' w' _ (by simpa using hown) (by first | omega | (simp; omega))
        go_wp2_with fail
        go_ret2
        exact ⟨_, rfl, hO.congr (fun i _ => (hsp.out i).symm), hB⟩
set_option maxHeartbeats 800000 in
theorem refCap_share (T : Int) (a : Addr) (n cap : Nat) (g : Nat → Int) (w : World) (h : ListAt w .i64 (.slice (some a) n cap) n g) (hn1 : 1 ≤ n) (h0 : shE T n g = 0) (hs : ¬ sumI g n ≤ T) (hc : ∀ i, i < n → w.cell? (a.add i) = some (.int .i64 (g i))) :
    Calls Try.prog 19 #[.int .i64 T, .slice (some a) n cap] w (CapGives w T n g) := by
  have e1 : cpE T n g = 0 := by unfold cpE; rw [h0]; rfl
  have hn : cpN T n g = n := by unfold cpN; rw [e1]; rfl
  unfold CapGives
  rw [e1, hn]
  have hsn : shN T n g = n := if_pos h0
  have hS := refShare_any T (.slice (some a) n cap) n g w h
  have hS2 := fun w1 (hb : Below w.heap.size w w1) => refShare_any T (.slice (some a) n cap) n g w1 (h.keep hb)
  unfold ShareGives at hS hS2
  rw [h0] at hS
  rw [h0, hsn] at hS2
  have HS2 := Lib.hid hS2
  obtain ⟨k1, k2, k3, k4, k5⟩ := sh_ok h0
  have HS := Lib.hid hS
  have hat := amts0_at k4
  clear e1 h hn hS hS2
  go_enter Try.func19, Try.ntmps19
  go_wp2_with fail
  refine HS.out.mono ?_
  rintro e w1 ⟨u, rfl, h1, h2⟩
  have hc1 : ∀ i, i < n → w1.cell? (a.add i) = some (.int .i64 (g i)) := fun i hi => (h2.cell (World.block_lt_of_cell? w _ (hc i hi))).trans (hc i hi)
  go_wp2_with fail
  go_loop [8, 9] (fun s i => ∃ k : Nat, k ≤ n ∧ i = .int .i64 k ∧ ∃ S : Int, s = .int .i64 S ∧ Hid (S = sumI g k)) (fun _ i => n - (intOf i).toNat)
  case atStart => exact ⟨0, Nat.zero_le _, rfl, 0, rfl, Lib.hid rfl⟩
  case round =>
    obtain ⟨j, hj, rfl, S, rfl, hS⟩ := hrel
    have hsum := sumN_at k4 hj
    have hS0 : 0 ≤ S ∧ S ≤ 1000000000000000 := by rw [hS.out]; omega
    clear hsum
    by_cases hlt : j < n
    · have hcell := hc1 j hlt
      have hx := hat j hlt
      have hS2 := Lib.hid (show S + g j = sumI g (j + 1) by rw [hS.out]; rfl)
      clear hc hc1 hS
      generalize g j = x at *
      go_wp2
      go_round
      case rel => exact ⟨j + 1, by omega, by go_num, _, rfl, hS2⟩
      case measure => simp [intOf]; omega
    · have : j = n := by omega
      subst this
      have hd : decide (S ≤ T) = false := decide_eq_false (by rw [hS.out]; omega)
      have he : decide ((j : Int) < (j : Int)) = false := decide_eq_false (by omega)
      have hsp := Lib.hid (show ∀ i, cpI T j g i = shI T j g i from fun i => if_neg (by omega))
      clear hc hc1 hat hS
      go_wp2_with fail
      refine (HS2.out _ h2).mono ?_
      rintro e w2 ⟨u2, rfl, h3, h4⟩
      go_wp2_with fail
      go_ret2
      refine ⟨_, rfl, ?_, h2.trans (h4.mono h2.size)⟩
      rcases h3 with h3 | ⟨B, cp, q1, q2, q3, q4, q5, q6⟩
      · exact .inl h3
      · exact .inr ⟨B, cp, q1, q2, q3, Nat.le_trans h2.size q4, q5.congr (fun i _ => (hsp.out i).symm), fun i hi => by rw [hsp.out]; exact q6 i hi⟩

set_option maxRecDepth 100000 in
set_option maxHeartbeats 800000 in
theorem refCap_zero (T : Int) (v : Value) (hv : v = .slice none 0 0 ∨ ∃ a cap, v = .slice (some a) 0 cap) (g : Nat → Int) (w : World) (h : ListAt w .i64 v 0 g) (h0 : shE T 0 g = 0 ∨ shE T 0 g = 7) (hT : 0 ≤ T) :
    Calls Try.prog 19 #[.int .i64 T, v] w (CapGives w T 0 g) := by
  have e1 : cpE T 0 g = 0 := by
    unfold cpE
    rcases h0 with h0 | h0 <;> rw [h0] <;> rfl
  have hn : cpN T 0 g = 0 := by unfold cpN; rw [e1]; rfl
  unfold CapGives
  rw [e1, hn]
  have hS := refShare_any T v 0 g w h
  unfold ShareGives at hS
  obtain ⟨E, hE⟩ : ∃ E, E = shE T 0 g := ⟨_, rfl⟩
  rw [← hE] at hS h0
  have HS := Lib.hid hS
  clear e1 h hn hS hE
  have hd : decide (0 ≤ T) = true := decide_eq_true hT
  rcases h0 with rfl | rfl <;> rcases hv with rfl | ⟨a, cap, rfl⟩
  all_goals
    go_enter Try.func19, Try.ntmps19
    go_wp2_with fail
    refine HS.out.mono ?_
    rintro e w1 ⟨u, rfl, h1, h2⟩
    go_wp2_with fail
    go_loop [8, 9] (fun s i => i = .int .i64 0 ∧ s = .int .i64 0) (fun _ _ => 0)
    case atStart => exact ⟨rfl, rfl⟩
    case round =>
      obtain ⟨rfl, rfl⟩ := hrel
      go_wp2_with fail
      go_ret2
      refine ⟨_, rfl, .inr ⟨w1.heap.size, 0, rfl, Nat.le_refl _, Nat.zero_le _, h2.size, ⟨fun j hj => absurd hj (by omega), by simp⟩, fun i hi => absurd hi (by omega)⟩, h2.alloc h2.size _⟩

/-- Cap returns the requests, or their shares, or an error. -/
theorem refCap_any (T : Int) (v : Value) (n : Nat) (g : Nat → Int) (w : World) (h : ListAt w .i64 v n g) :
    Calls Try.prog 19 #[.int .i64 T, v] w (CapGives w T n g) := by
  by_cases h0 : shE T n g = 0
  · have hk := sh_ok h0
    by_cases hn : n = 0
    · subst hn
      have hv : v = .slice none 0 0 ∨ ∃ a cap, v = .slice (some a) 0 cap := by
        rcases h with ⟨h, _⟩ | ⟨a, cap, h, _⟩
        · exact .inl h
        · exact .inr ⟨a, cap, h⟩
      exact refCap_zero T v hv g w h (.inl h0) hk.2.1
    · have h' := h
      rcases h with ⟨_, h⟩ | ⟨a, cap, rfl, h1, h2, h3⟩
      · exact absurd h hn
      · by_cases hs : sumI g n ≤ T
        · exact refCap_all T a n cap g w h' (by omega) h0 hs (fun i hi => (h3 i hi).1)
        · exact refCap_share T a n cap g w h' (by omega) h0 hs (fun i hi => (h3 i hi).1)
  · by_cases h7 : shE T n g = 7
    · have hn : n = 0 ∧ 0 < T := by
        unfold shE at h7
        split at h7
        · omega
        · split at h7
          · omega
          · split at h7
            · assumption
            · omega
      obtain ⟨rfl, hT⟩ := hn
      have hv : v = .slice none 0 0 ∨ ∃ a cap, v = .slice (some a) 0 cap := by
        rcases h with ⟨h, _⟩ | ⟨a, cap, h, _⟩
        · exact .inl h
        · exact .inr ⟨a, cap, h⟩
      exact refCap_zero T v hv g w h (.inr h7) (by omega)
    · exact refCap_error T v n g w h h0 h7
end Go.Proofs.Ytnjegnmkabnkkaa
