/- What the function byRest of the package apportion returns: the numbers of the remainders, the greatest remainder first, of equal ones the first one first. Condition: the list of remainders lies there. -/
import Derived.Test.YtnjegnmkabnkkaaSortStable
namespace Go.Proofs.Ytnjegnmkabnkkaa
open Go.RowKit

theorem info_u64 : (Try.prog.info? 40).map (fun i => (i.zero, i.size, i.bytes)) = some (some (.int .u64 0), 1, 8) := by kernel_rfl
/-- Block b holds the words f 0 .. f (n - 1), and they may be written. -/
def Words (w : World) (b n : Nat) (f : Nat → Nat) : Prop :=
  (∀ j, j < n → w.cell? ⟨b, j, none⟩ = some (.int .u64 (f j)) ∧ w.frozen? ⟨b, j, none⟩ = false) ∧ b < w.heap.size
theorem Words.keep {w w1 : World} {b n : Nat} {f : Nat → Nat} (h : Words w b n f) (hb : Below w.heap.size w w1) : Words w1 b n f := by
  obtain ⟨hc, hf⟩ := bcell hb
  exact ⟨fun j hj => ⟨(hc b j h.2).trans (h.1 j hj).1, (hf b j h.2).trans (h.1 j hj).2⟩, Nat.lt_of_lt_of_le h.2 hb.size⟩
theorem Words.set {w : World} {b n : Nat} {f : Nat → Nat} (h : Words w b n f) (i v : Nat) (g : Nat → Nat) (hg : ∀ j, j < n → g j = if j = i then v else f j) :
    Words (w.setCell ⟨b, i, none⟩ (.int .u64 v)) b n g := by
  refine ⟨fun j hj => ?_, by simpa [World.setCell] using h.2⟩
  obtain ⟨c1, f1⟩ := h.1 j hj
  refine ⟨?_, (World.frozen?_setCell _ _ _ _).trans f1⟩
  rw [hg j hj]
  by_cases e : j = i
  · subst e
    rw [if_pos rfl]
    exact World.cell?_setCell_same w _ _ c1
  · rw [if_neg e]
    have hne : (⟨b, i, none⟩ : Addr) ≠ ⟨b, j, none⟩ := fun h => e (by injection h with _ h2; exact h2.symm)
    exact (World.cell?_setCell_other w _ _ _ hne).trans c1
theorem Words.other {w : World} {b n d o : Nat} {f : Nat → Nat} {v : Value} (h : Words w b n f) (hne : d ≠ b) : Words (w.setCell ⟨d, o, none⟩ v) b n f := by
  refine ⟨fun j hj => ?_, by simpa [World.setCell] using h.2⟩
  obtain ⟨c1, f1⟩ := h.1 j hj
  refine ⟨(World.cell?_setCell_other w _ _ _ (fun e => hne (by injection e))).trans c1, (World.frozen?_setCell _ _ _ _).trans f1⟩
theorem Words.alloc {w : World} {b n : Nat} {f : Nat → Nat} (h : Words w b n f) (o : Obj) : Words (w.alloc o) b n f := h.keep ((Below.refl _ _).alloc (Nat.le_refl _) _)
theorem words_made (n : Nat) (hn : n ≤ 1000000) (w : World) : (Instr.makeSlice 39 (.int .i64 (n : Int)) (.int .i64 (n : Int))).run Try.prog w = .ok (.slice (some ⟨w.heap.size, 0, none⟩) n n) (w.alloc (.cells (madeCells #[.int .u64 0] n) 40)) ∧
    Words (w.alloc (.cells (madeCells #[.int .u64 0] n) 40)) w.heap.size n (fun _ => 0) := by
  obtain ⟨i0, hi, hz0, hz1, hz2⟩ := info_parts info_u64
  constructor
  · have h := run_make (P := Try.prog) w 39 40 i0 _ Try.underlying39 hi hz0 .i64 .i64 (n : Int) (n : Int) (by omega) (by omega) (by rw [hz2]; omega) (by omega)
    simpa [hz1, Value.cells] using h
  · refine ⟨fun j hj => ?_, by simp⟩
    have hc : (madeCells #[.int .u64 0] n)[j]? = some (.int .u64 0) := by
      simp [madeCells, hj, Nat.mod_one]
    constructor
    · refine (World.cell?_alloc_mark w _ _ _ j).trans hc
    · exact (World.frozen?_alloc_mark w _ _ 0 0 j).trans (by simp)

set_option maxRecDepth 100000 in
set_option maxHeartbeats 800000 in
theorem sortStable_any {W0 : World} {C BR BO n cap : Nat} {r : Nat → Nat} (S : SortSeat W0 C BR BO n cap r) (cp : Nat) (w : World) (h : SortAt W0 w BO n (fun i => i)) :
    Calls Try.prog 33 #[.slice (some ⟨BO, 0, none⟩) n cp, .func (.func 34) #[] #[.pointer (some ⟨C, 0, none⟩)]] w fun e w1 =>
      e = .returned (.tuple #[]) ∧ SortDone W0 w1 BO n r := by
  have HS := Lib.hid (stable_any S cp w h)
  clear S h
  go_enter Try.func33, Try.ntmps33
  go_wp2_with fail
  refine HS.out.mono ?_
  rintro e w1 ⟨rfl, h1⟩
  go_wp2_with fail
  go_end0
  exact ⟨rfl, h1⟩

/-- What byRest hands back. -/
def ByRest (w w1 : World) (u : Value) (n : Nat) (r : Nat → Nat) : Prop :=
  ∃ (BO : Nat) (d : Nat → Nat), u = .slice (some ⟨BO, 0, none⟩) n n ∧ w.heap.size ≤ BO ∧ Moved 0 n (fun i => i) d ∧ SortedOn r d 0 n ∧ Ints w1 BO n (fun i => (d i : Int)) ∧ Below w.heap.size w w1

/-- The row as it is filled. -/
structure Filled (W1 wx : World) (BO n k : Nat) : Prop where
  row : Ints wx BO n (fun j => if j < k then (j : Int) else 0)
  below : Below BO W1 wx
/-- The world behind the two makings. -/
structure ByStart (w W1 : World) (C BR BO n cap : Nat) (r : Nat → Nat) : Prop where
  seat : SortSeat W1 C BR BO n cap r
  fill : Filled W1 W1 BO n 0
  own : w.heap.size ≤ BO
  below : Below w.heap.size w W1
theorem by_start (BR n cap : Nat) (r : Nat → Nat) (hn : n ≤ 1000) (w : World) (h : Words w BR n r) :
    ByStart w ((w.alloc (.cells #[.slice (some ⟨BR, 0, none⟩) n cap] 39)).alloc (.cells (madeCells #[.int .i64 0] n) 3)) w.heap.size BR (w.heap.size + 1) n cap r := by
  have hs : (w.alloc (.cells #[.slice (some ⟨BR, 0, none⟩) n cap] 39)).heap.size = w.heap.size + 1 := by simp
  have h1 := (ints_made n (by omega) (w.alloc (.cells #[.slice (some ⟨BR, 0, none⟩) n cap] 39))).2
  rw [hs] at h1
  have hb : Below w.heap.size w ((w.alloc (.cells #[.slice (some ⟨BR, 0, none⟩) n cap] 39)).alloc (.cells (madeCells #[.int .i64 0] n) 3)) := ((Below.refl _ _).alloc (Nat.le_refl _) _).alloc (by rw [hs]; omega) _
  have hw := h.keep hb
  refine ⟨⟨⟨?_, fun i hi => (hw.1 i hi).1⟩, by omega, by have := h.2; omega, hn⟩, ⟨h1.congr (fun i _ => by rw [if_neg (by omega)]), Below.refl _ _⟩, by omega, hb⟩
  have hb2 : Below (w.heap.size + 1) (w.alloc (.cells #[.slice (some ⟨BR, 0, none⟩) n cap] 39)) ((w.alloc (.cells #[.slice (some ⟨BR, 0, none⟩) n cap] 39)).alloc (.cells (madeCells #[.int .i64 0] n) 3)) := (Below.refl _ _).alloc (by rw [hs]; omega) _
  exact (hb2.cell (by show w.heap.size < w.heap.size + 1; omega)).trans (by simp)

set_option maxRecDepth 100000 in
set_option maxHeartbeats 800000 in
theorem rests_any (BR n cap : Nat) (r : Nat → Nat) (hn : n ≤ 1000) (w : World) (h : Words w BR n r) :
    Calls Try.prog 23 #[.slice (some ⟨BR, 0, none⟩) n cap] w fun e w1 => ∃ u, e = .returned u ∧ ByRest w w1 u n r := by
  have hm := fun W => (ints_made n (by omega) W).1
  have H := Lib.hid (by_start BR n cap r hn w h)
  clear h
  go_enter Try.func23, Try.ntmps23
  go_wp2_with fail
  clear hm
  generalize (w.alloc (.cells #[.slice (some ⟨BR, 0, none⟩) n cap] 39)).alloc (.cells (madeCells #[.int .i64 0] n) 3) = W1 at *
  obtain ⟨C, hC⟩ : ∃ C, C = w.heap.size := ⟨_, rfl⟩
  rw [← hC] at H ⊢
  obtain ⟨BO, hBO⟩ : ∃ BO, BO = C + 1 := ⟨_, rfl⟩
  rw [← hBO] at H ⊢
  clear hBO hC
  go_loopw [10] (fun vk wx => ∃ k : Nat, vk = .int .i64 k ∧ k ≤ n ∧ Hid (Filled W1 wx BO n k)) (fun vk _ => n - (intOf vk).toNat)
  case atStart => exact ⟨0, by go_num, by omega, Lib.hid H.out.fill⟩
  case round =>
    obtain ⟨k, rfl, hk, hF⟩ := hrel
    by_cases hlt : k < n
    · have hN := Lib.hid (show Filled W1 (wr.setCell ⟨BO, k, none⟩ (.int .i64 (k : Int))) BO n (k + 1) from ⟨hF.out.row.set k k _ (fun j _ => by
        by_cases e : j = k
        · subst e; simp
        · rw [if_neg e]
          by_cases h2 : j < k
          · rw [if_pos (by omega), if_pos h2]
          · rw [if_neg (by omega), if_neg h2]), hF.out.below.setCell (Nat.le_refl _) _⟩)
      obtain ⟨c1, f1⟩ := hF.out.row.1 k hlt
      clear hF H
      go_wp2_with fail
      go_roundw
      case rel => exact ⟨k + 1, by go_num, by omega, hN⟩
      case measure => simp [intOf]; omega
    · obtain rfl : k = n := by omega
      have HS := Lib.hid (sortStable_any H.out.seat k wr ⟨hF.out.row.congr (fun i hi => if_pos hi), hF.out.below, fun i hi => hi⟩)
      clear hF
      go_wp2_with fail
      refine HS.out.mono ?_
      rintro e w2 ⟨rfl, d, m1, s1, A1⟩
      clear HS
      go_wp2_with fail
      go_ret
      exact ⟨_, rfl, BO, d, rfl, H.out.own, m1, s1, A1.row, H.out.below.trans (A1.below.mono H.out.own)⟩
end Go.Proofs.Ytnjegnmkabnkkaa
