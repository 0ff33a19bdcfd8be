/- What Deadline of the reference of layer 4 returns. Condition: the list's cells are known. -/
import Derived.Test.YtnegiopbccllcaaDoorCalRef3
import Derived.Test.YtnegiopbccllcaaDoorCalRef5
namespace Go.Proofs.YtnegiopbccllcaaDoor
open Go.RowKit

theorem listAt_below {w w1 : World} {k : IntKind} {v : Value} {n : Nat} {f : Nat → Int} (h : ListAt w k v n f) (hb : Below w.heap.size w w1) : ListAt w1 k v n f := by
  rcases h with h | ⟨a, cap, h1, h2, h3, h4⟩
  · exact .inl h
  · exact .inr ⟨a, cap, h1, h2, h3, fun i hi => ⟨(hb.cell (World.block_lt_of_cell? w _ (h4 i hi).1)).trans (h4 i hi).1, (h4 i hi).2⟩⟩
def wiB (x : Int) : Bool := decide (0 ≤ x) && decide (x ≤ 1000)
set_option maxHeartbeats 400000 in
theorem refWithin_any (x : Int) (w : World) : Calls Tryd.prog 44 #[.int .i64 x] w fun e w' => e = .returned (.bool (wiB x)) ∧ w = w' := by
  by_cases h1 : 0 ≤ x
  · by_cases h2 : x ≤ 1000
    · rw [show wiB x = true by simp [wiB, h1, h2]]
      go_enter Tryd.func44, Tryd.ntmps44
      go_wp2
      go_ret
      exact ⟨rfl, rfl⟩
    · rw [show wiB x = false by simp [wiB]; omega]
      go_enter Tryd.func44, Tryd.ntmps44
      go_wp2
      go_ret
      exact ⟨rfl, rfl⟩
  · rw [show wiB x = false by simp [wiB]; omega]
    go_enter Tryd.func44, Tryd.ntmps44
    go_wp2
    go_ret
    exact ⟨rfl, rfl⟩

def dlIn (x m d c : Int) : Bool := dayB x && (wiB m && (wiB d && wiB c))
def dlMid (x m d : Int) : Bool := amE x m == 0 && dayB (amV x m + d)
def dlV (n : Nat) (g : Nat → Int) (x m d c : Int) : Int :=
  if validE n g = 0 then (if dlIn x m d c then (if dlMid x m d then (if awE n g (amV x m + d) c = 0 then nwV n g (awV n g (amV x m + d) c) else 0) else 0) else 0) else 0
def dlE (n : Nat) (g : Nat → Int) (x m d c : Int) : Int :=
  if validE n g = 0 then (if dlIn x m d c then (if dlMid x m d then (if awE n g (amV x m + d) c = 0 then nwE n g (awV n g (amV x m + d) c) else awE n g (amV x m + d) c) else 3) else 2) else validE n g

theorem am_range (x m : Int) : 0 ≤ amV x m ∧ amV x m ≤ 36524 := by
  unfold amV
  split
  · omega
  · split
    · rename_i h1 h2
      unfold amIn at h2
      simp only [Bool.and_eq_true, decide_eq_true_eq] at h2
      have := am_le x.toNat (amK x m).toNat (by omega)
      omega
    · omega

set_option maxRecDepth 100000 in
set_option maxHeartbeats 1600000 in
theorem refDeadline_bad (v : Value) (n : Nat) (g : Nat → Int) (x m d c : Int) (w : World) (h : ListAt w .i64 v n g) (hv : validE n g = 0) (hi : dlIn x m d c = false) :
    Calls Tryd.prog 32 #[v, .int .i64 x, .agg #[.int .i64 m, .int .i64 d, .int .i64 c]] w fun e w' => e = .returned (.tuple #[.int .i64 (dlV n g x m d c), .int .i64 (dlE n g x m d c)]) ∧ Below w.heap.size w w' := by
  have e1 : dlV n g x m d c = 0 := by unfold dlV; rw [if_pos hv, if_neg (by rw [hi]; simp)]
  have e2 : dlE n g x m d c = 2 := by unfold dlE; rw [if_pos hv, if_neg (by rw [hi]; simp)]
  rw [e1, e2]
  have HV := Lib.hid (fun (w' : World) (hb : Below w.heap.size w w') => refValid_any v n g w' (listAt_below h hb))
  rw [hv] at HV
  clear e1 e2 h hv
  have HD := Lib.hid (refDay_any x)
  have Hm := Lib.hid (refWithin_any m)
  have Hd := Lib.hid (refWithin_any d)
  have Hc := Lib.hid (refWithin_any c)
  unfold dlIn at hi
  cases i1 : dayB x with
  | false =>
    rw [i1] at HD
    clear hi i1 Hm Hd Hc
    go_enter Tryd.func32, Tryd.ntmps32
    go_wp2_with fail
    have hB0 : Below w.heap.size w (w.alloc (.cells #[.int .i64 m, .int .i64 d, .int .i64 c] 47)) := (Below.refl _ _).alloc (Nat.le_refl _) _
    refine (HV.out _ hB0).mono ?_
    rintro e w1 ⟨rfl, k1, rfl⟩
    have q0 : ((w.alloc (.cells #[.int .i64 m, .int .i64 d, .int .i64 c] 47)).drewN k1).cell? ⟨w.heap.size, 0, none⟩ = some (.int .i64 m) := by simp [go_sem]
    have q1 : ((w.alloc (.cells #[.int .i64 m, .int .i64 d, .int .i64 c] 47)).drewN k1).cell? ⟨w.heap.size, 1, none⟩ = some (.int .i64 d) := by simp [go_sem]
    have q2 : ((w.alloc (.cells #[.int .i64 m, .int .i64 d, .int .i64 c] 47)).drewN k1).cell? ⟨w.heap.size, 2, none⟩ = some (.int .i64 c) := by simp [go_sem]
    have hB1 : Below w.heap.size w ((w.alloc (.cells #[.int .i64 m, .int .i64 d, .int .i64 c] 47)).drewN k1) := below_drewN hB0 _
    have hs1 : w.heap.size < ((w.alloc (.cells #[.int .i64 m, .int .i64 d, .int .i64 c] 47)).drewN k1).heap.size := by simp [go_sem]
    generalize (w.alloc (.cells #[.int .i64 m, .int .i64 d, .int .i64 c] 47)).drewN k1 = W at *
    clear hB0
    go_wp2_with fail
    refine (HD.out _).mono ?_
    rintro e w1 ⟨rfl, rfl⟩
    go_wp2_with fail
    go_ret2
    exact ⟨rfl, hB1⟩
  | true =>
    rw [i1] at HD hi
    clear i1
    cases i2 : wiB m with
    | false =>
      rw [i2] at Hm
      clear hi i2 Hd Hc
      go_enter Tryd.func32, Tryd.ntmps32
      go_wp2_with fail
      have hB0 : Below w.heap.size w (w.alloc (.cells #[.int .i64 m, .int .i64 d, .int .i64 c] 47)) := (Below.refl _ _).alloc (Nat.le_refl _) _
      refine (HV.out _ hB0).mono ?_
      rintro e w1 ⟨rfl, k1, rfl⟩
      have q0 : ((w.alloc (.cells #[.int .i64 m, .int .i64 d, .int .i64 c] 47)).drewN k1).cell? ⟨w.heap.size, 0, none⟩ = some (.int .i64 m) := by simp [go_sem]
      have q1 : ((w.alloc (.cells #[.int .i64 m, .int .i64 d, .int .i64 c] 47)).drewN k1).cell? ⟨w.heap.size, 1, none⟩ = some (.int .i64 d) := by simp [go_sem]
      have q2 : ((w.alloc (.cells #[.int .i64 m, .int .i64 d, .int .i64 c] 47)).drewN k1).cell? ⟨w.heap.size, 2, none⟩ = some (.int .i64 c) := by simp [go_sem]
      have hB1 : Below w.heap.size w ((w.alloc (.cells #[.int .i64 m, .int .i64 d, .int .i64 c] 47)).drewN k1) := below_drewN hB0 _
      have hs1 : w.heap.size < ((w.alloc (.cells #[.int .i64 m, .int .i64 d, .int .i64 c] 47)).drewN k1).heap.size := by simp [go_sem]
      generalize (w.alloc (.cells #[.int .i64 m, .int .i64 d, .int .i64 c] 47)).drewN k1 = W at *
      clear hB0
      go_wp2_with fail
      refine (HD.out _).mono ?_
      rintro e w1 ⟨rfl, rfl⟩
      go_wp2_with fail
      refine (Hm.out _).mono ?_
      rintro e w1 ⟨rfl, rfl⟩
      go_wp2_with fail
      go_ret2
      exact ⟨rfl, hB1⟩
    | true =>
      rw [i2] at Hm hi
      clear i2
      cases i3 : wiB d with
      | false =>
        rw [i3] at Hd
        clear hi i3 Hc
        go_enter Tryd.func32, Tryd.ntmps32
        go_wp2_with fail
        have hB0 : Below w.heap.size w (w.alloc (.cells #[.int .i64 m, .int .i64 d, .int .i64 c] 47)) := (Below.refl _ _).alloc (Nat.le_refl _) _
        refine (HV.out _ hB0).mono ?_
        rintro e w1 ⟨rfl, k1, rfl⟩
        have q0 : ((w.alloc (.cells #[.int .i64 m, .int .i64 d, .int .i64 c] 47)).drewN k1).cell? ⟨w.heap.size, 0, none⟩ = some (.int .i64 m) := by simp [go_sem]
        have q1 : ((w.alloc (.cells #[.int .i64 m, .int .i64 d, .int .i64 c] 47)).drewN k1).cell? ⟨w.heap.size, 1, none⟩ = some (.int .i64 d) := by simp [go_sem]
        have q2 : ((w.alloc (.cells #[.int .i64 m, .int .i64 d, .int .i64 c] 47)).drewN k1).cell? ⟨w.heap.size, 2, none⟩ = some (.int .i64 c) := by simp [go_sem]
        have hB1 : Below w.heap.size w ((w.alloc (.cells #[.int .i64 m, .int .i64 d, .int .i64 c] 47)).drewN k1) := below_drewN hB0 _
        have hs1 : w.heap.size < ((w.alloc (.cells #[.int .i64 m, .int .i64 d, .int .i64 c] 47)).drewN k1).heap.size := by simp [go_sem]
        generalize (w.alloc (.cells #[.int .i64 m, .int .i64 d, .int .i64 c] 47)).drewN k1 = W at *
        clear hB0
        go_wp2_with fail
        refine (HD.out _).mono ?_
        rintro e w1 ⟨rfl, rfl⟩
        go_wp2_with fail
        refine (Hm.out _).mono ?_
        rintro e w1 ⟨rfl, rfl⟩
        go_wp2_with fail
        refine (Hd.out _).mono ?_
        rintro e w1 ⟨rfl, rfl⟩
        go_wp2_with fail
        go_ret2
        exact ⟨rfl, hB1⟩
      | true =>
        rw [i3] at Hd hi
        have i4 : wiB c = false := hi
        rw [i4] at Hc
        clear hi i3 i4
        go_enter Tryd.func32, Tryd.ntmps32
        go_wp2_with fail
        have hB0 : Below w.heap.size w (w.alloc (.cells #[.int .i64 m, .int .i64 d, .int .i64 c] 47)) := (Below.refl _ _).alloc (Nat.le_refl _) _
        refine (HV.out _ hB0).mono ?_
        rintro e w1 ⟨rfl, k1, rfl⟩
        have q0 : ((w.alloc (.cells #[.int .i64 m, .int .i64 d, .int .i64 c] 47)).drewN k1).cell? ⟨w.heap.size, 0, none⟩ = some (.int .i64 m) := by simp [go_sem]
        have q1 : ((w.alloc (.cells #[.int .i64 m, .int .i64 d, .int .i64 c] 47)).drewN k1).cell? ⟨w.heap.size, 1, none⟩ = some (.int .i64 d) := by simp [go_sem]
        have q2 : ((w.alloc (.cells #[.int .i64 m, .int .i64 d, .int .i64 c] 47)).drewN k1).cell? ⟨w.heap.size, 2, none⟩ = some (.int .i64 c) := by simp [go_sem]
        have hB1 : Below w.heap.size w ((w.alloc (.cells #[.int .i64 m, .int .i64 d, .int .i64 c] 47)).drewN k1) := below_drewN hB0 _
        have hs1 : w.heap.size < ((w.alloc (.cells #[.int .i64 m, .int .i64 d, .int .i64 c] 47)).drewN k1).heap.size := by simp [go_sem]
        generalize (w.alloc (.cells #[.int .i64 m, .int .i64 d, .int .i64 c] 47)).drewN k1 = W at *
        clear hB0
        go_wp2_with fail
        refine (HD.out _).mono ?_
        rintro e w1 ⟨rfl, rfl⟩
        go_wp2_with fail
        refine (Hm.out _).mono ?_
        rintro e w1 ⟨rfl, rfl⟩
        go_wp2_with fail
        refine (Hd.out _).mono ?_
        rintro e w1 ⟨rfl, rfl⟩
        go_wp2_with fail
        refine (Hc.out _).mono ?_
        rintro e w1 ⟨rfl, rfl⟩
        go_wp2_with fail
        go_ret2
        exact ⟨rfl, hB1⟩

set_option maxRecDepth 100000 in
set_option maxHeartbeats 3200000 in
theorem refDeadline_good (v : Value) (n : Nat) (g : Nat → Int) (x m d c : Int) (w : World) (h : ListAt w .i64 v n g) (hv : validE n g = 0) (hi : dlIn x m d c = true) :
    Calls Tryd.prog 32 #[v, .int .i64 x, .agg #[.int .i64 m, .int .i64 d, .int .i64 c]] w fun e w' => e = .returned (.tuple #[.int .i64 (dlV n g x m d c), .int .i64 (dlE n g x m d c)]) ∧ Below w.heap.size w w' := by
  have HV := Lib.hid (fun (w' : World) (hb : Below w.heap.size w w') => refValid_any v n g w' (listAt_below h hb))
  rw [hv] at HV
  have hi0 := hi
  unfold dlIn at hi
  simp only [Bool.and_eq_true] at hi
  obtain ⟨i1, i2, i3, i4⟩ := hi
  have HD := Lib.hid (refDay_any x)
  have Hm := Lib.hid (refWithin_any m)
  have Hd := Lib.hid (refWithin_any d)
  have Hc := Lib.hid (refWithin_any c)
  rw [i1] at HD
  rw [i2] at Hm
  rw [i3] at Hd
  rw [i4] at Hc
  have HA := Lib.hid (refAddMonths_any x m)
  have hAr := am_range x m
  have hdr : 0 ≤ d ∧ d ≤ 1000 := by
    unfold wiB at i3
    simpa using i3
  have HD2 := Lib.hid (refDay_any (amV x m + d))
  have HW := Lib.hid (fun (w' : World) (hb : Below w.heap.size w w') => refAdd_any v n g (amV x m + d) c w' (listAt_below h hb))
  have HN := Lib.hid (fun (w' : World) (hb : Below w.heap.size w w') => refNext_any v n g (awV n g (amV x m + d) c) w' (listAt_below h hb))
  clear i1 i2 i3 i4
  by_cases hE : amE x m = 0
  · cases hdd : dayB (amV x m + d) with
    | false =>
      have hmid : dlMid x m d = false := by unfold dlMid; rw [hdd]; simp
      have e1 : dlV n g x m d c = 0 := by unfold dlV; rw [if_pos hv, if_pos hi0, if_neg (by rw [hmid]; simp)]
      have e2 : dlE n g x m d c = 3 := by unfold dlE; rw [if_pos hv, if_pos hi0, if_neg (by rw [hmid]; simp)]
      rw [e1, e2]
      rw [hE] at HA
      rw [hdd] at HD2
      clear e1 e2 hmid hdd hE hi0 hv h HW HN
      generalize amV x m = A at *
      go_enter Tryd.func32, Tryd.ntmps32
      go_wp2_with fail
      have hB0 : Below w.heap.size w (w.alloc (.cells #[.int .i64 m, .int .i64 d, .int .i64 c] 47)) := (Below.refl _ _).alloc (Nat.le_refl _) _
      refine (HV.out _ hB0).mono ?_
      rintro e w1 ⟨rfl, k1, rfl⟩
      have q0 : ((w.alloc (.cells #[.int .i64 m, .int .i64 d, .int .i64 c] 47)).drewN k1).cell? ⟨w.heap.size, 0, none⟩ = some (.int .i64 m) := by simp [go_sem]
      have q1 : ((w.alloc (.cells #[.int .i64 m, .int .i64 d, .int .i64 c] 47)).drewN k1).cell? ⟨w.heap.size, 1, none⟩ = some (.int .i64 d) := by simp [go_sem]
      have q2 : ((w.alloc (.cells #[.int .i64 m, .int .i64 d, .int .i64 c] 47)).drewN k1).cell? ⟨w.heap.size, 2, none⟩ = some (.int .i64 c) := by simp [go_sem]
      have hB1 : Below w.heap.size w ((w.alloc (.cells #[.int .i64 m, .int .i64 d, .int .i64 c] 47)).drewN k1) := below_drewN hB0 _
      have hs1 : w.heap.size < ((w.alloc (.cells #[.int .i64 m, .int .i64 d, .int .i64 c] 47)).drewN k1).heap.size := by simp [go_sem]
      generalize (w.alloc (.cells #[.int .i64 m, .int .i64 d, .int .i64 c] 47)).drewN k1 = W at *
      clear hB0
      go_wp2_with fail
      refine (HD.out _).mono ?_
      rintro e w1 ⟨rfl, rfl⟩
      go_wp2_with fail
      refine (Hm.out _).mono ?_
      rintro e w1 ⟨rfl, rfl⟩
      go_wp2_with fail
      refine (Hd.out _).mono ?_
      rintro e w1 ⟨rfl, rfl⟩
      go_wp2_with fail
      refine (Hc.out _).mono ?_
      rintro e w1 ⟨rfl, rfl⟩
      go_wp2_with fail
      refine (HA.out _).mono ?_
      rintro e w2 ⟨rfl, hB2⟩
      have hB3 : Below w.heap.size w w2 := hB1.trans (hB2.mono hB1.size)
      have p1 : w2.cell? ⟨w.heap.size, 1, none⟩ = some (.int .i64 d) := (hB2.cell hs1).trans q1
      have p2 : w2.cell? ⟨w.heap.size, 2, none⟩ = some (.int .i64 c) := (hB2.cell hs1).trans q2
      clear q0 q1 q2 hB1 hB2 hs1 HV HA HD Hm Hd Hc
      go_wp2_with fail
      refine (HD2.out _).mono ?_
      rintro e w1 ⟨rfl, rfl⟩
      go_wp2_with fail
      go_ret2
      exact ⟨rfl, hB3⟩
    | true =>
      have hmid : dlMid x m d = true := by unfold dlMid; rw [hdd, hE]; rfl
      by_cases hW : awE n g (amV x m + d) c = 0
      · have e1 : dlV n g x m d c = nwV n g (awV n g (amV x m + d) c) := by unfold dlV; rw [if_pos hv, if_pos hi0, if_pos hmid, if_pos hW]
        have e2 : dlE n g x m d c = nwE n g (awV n g (amV x m + d) c) := by unfold dlE; rw [if_pos hv, if_pos hi0, if_pos hmid, if_pos hW]
        rw [e1, e2]
        rw [hE] at HA
        rw [hdd] at HD2
        rw [hW] at HW
        clear e1 e2 hmid hdd hE hi0 hv h hW
        generalize nwV n g (awV n g (amV x m + d) c) = V at *
        generalize nwE n g (awV n g (amV x m + d) c) = E at *
        generalize awV n g (amV x m + d) c = Y at *
        generalize amV x m = A at *
        go_enter Tryd.func32, Tryd.ntmps32
        go_wp2_with fail
        have hB0 : Below w.heap.size w (w.alloc (.cells #[.int .i64 m, .int .i64 d, .int .i64 c] 47)) := (Below.refl _ _).alloc (Nat.le_refl _) _
        refine (HV.out _ hB0).mono ?_
        rintro e w1 ⟨rfl, k1, rfl⟩
        have q0 : ((w.alloc (.cells #[.int .i64 m, .int .i64 d, .int .i64 c] 47)).drewN k1).cell? ⟨w.heap.size, 0, none⟩ = some (.int .i64 m) := by simp [go_sem]
        have q1 : ((w.alloc (.cells #[.int .i64 m, .int .i64 d, .int .i64 c] 47)).drewN k1).cell? ⟨w.heap.size, 1, none⟩ = some (.int .i64 d) := by simp [go_sem]
        have q2 : ((w.alloc (.cells #[.int .i64 m, .int .i64 d, .int .i64 c] 47)).drewN k1).cell? ⟨w.heap.size, 2, none⟩ = some (.int .i64 c) := by simp [go_sem]
        have hB1 : Below w.heap.size w ((w.alloc (.cells #[.int .i64 m, .int .i64 d, .int .i64 c] 47)).drewN k1) := below_drewN hB0 _
        have hs1 : w.heap.size < ((w.alloc (.cells #[.int .i64 m, .int .i64 d, .int .i64 c] 47)).drewN k1).heap.size := by simp [go_sem]
        generalize (w.alloc (.cells #[.int .i64 m, .int .i64 d, .int .i64 c] 47)).drewN k1 = W at *
        clear hB0
        go_wp2_with fail
        refine (HD.out _).mono ?_
        rintro e w1 ⟨rfl, rfl⟩
        go_wp2_with fail
        refine (Hm.out _).mono ?_
        rintro e w1 ⟨rfl, rfl⟩
        go_wp2_with fail
        refine (Hd.out _).mono ?_
        rintro e w1 ⟨rfl, rfl⟩
        go_wp2_with fail
        refine (Hc.out _).mono ?_
        rintro e w1 ⟨rfl, rfl⟩
        go_wp2_with fail
        refine (HA.out _).mono ?_
        rintro e w2 ⟨rfl, hB2⟩
        have hB3 : Below w.heap.size w w2 := hB1.trans (hB2.mono hB1.size)
        have p1 : w2.cell? ⟨w.heap.size, 1, none⟩ = some (.int .i64 d) := (hB2.cell hs1).trans q1
        have p2 : w2.cell? ⟨w.heap.size, 2, none⟩ = some (.int .i64 c) := (hB2.cell hs1).trans q2
        clear q0 q1 q2 hB1 hB2 hs1 HV HA HD Hm Hd Hc
        go_wp2_with fail
        refine (HD2.out _).mono ?_
        rintro e w1 ⟨rfl, rfl⟩
        go_wp2_with fail
        refine (HW.out _ hB3).mono ?_
        rintro e w1 ⟨rfl, k2, rfl⟩
        have hB4 := below_drewN hB3 k2
        go_wp2_with fail
        refine (HN.out _ hB4).mono ?_
        rintro e w1 ⟨rfl, k3, rfl⟩
        have hB5 := below_drewN hB4 k3
        go_wp2_with fail
        go_ret2
        exact ⟨rfl, below_drewN hB3 _⟩
      · have e1 : dlV n g x m d c = 0 := by unfold dlV; rw [if_pos hv, if_pos hi0, if_pos hmid, if_neg hW]
        have e2 : dlE n g x m d c = awE n g (amV x m + d) c := by unfold dlE; rw [if_pos hv, if_pos hi0, if_pos hmid, if_neg hW]
        rw [e1, e2]
        rw [hE] at HA
        rw [hdd] at HD2
        have d1 : (awE n g (amV x m + d) c != 0) = true := by rw [bne_iff_ne]; exact hW
        clear e1 e2 hmid hdd hE hi0 hv h hW HN
        generalize awE n g (amV x m + d) c = E at *
        generalize awV n g (amV x m + d) c = Y at *
        generalize amV x m = A at *
        go_enter Tryd.func32, Tryd.ntmps32
        go_wp2_with fail
        have hB0 : Below w.heap.size w (w.alloc (.cells #[.int .i64 m, .int .i64 d, .int .i64 c] 47)) := (Below.refl _ _).alloc (Nat.le_refl _) _
        refine (HV.out _ hB0).mono ?_
        rintro e w1 ⟨rfl, k1, rfl⟩
        have q0 : ((w.alloc (.cells #[.int .i64 m, .int .i64 d, .int .i64 c] 47)).drewN k1).cell? ⟨w.heap.size, 0, none⟩ = some (.int .i64 m) := by simp [go_sem]
        have q1 : ((w.alloc (.cells #[.int .i64 m, .int .i64 d, .int .i64 c] 47)).drewN k1).cell? ⟨w.heap.size, 1, none⟩ = some (.int .i64 d) := by simp [go_sem]
        have q2 : ((w.alloc (.cells #[.int .i64 m, .int .i64 d, .int .i64 c] 47)).drewN k1).cell? ⟨w.heap.size, 2, none⟩ = some (.int .i64 c) := by simp [go_sem]
        have hB1 : Below w.heap.size w ((w.alloc (.cells #[.int .i64 m, .int .i64 d, .int .i64 c] 47)).drewN k1) := below_drewN hB0 _
        have hs1 : w.heap.size < ((w.alloc (.cells #[.int .i64 m, .int .i64 d, .int .i64 c] 47)).drewN k1).heap.size := by simp [go_sem]
        generalize (w.alloc (.cells #[.int .i64 m, .int .i64 d, .int .i64 c] 47)).drewN k1 = W at *
        clear hB0
        go_wp2_with fail
        refine (HD.out _).mono ?_
        rintro e w1 ⟨rfl, rfl⟩
        go_wp2_with fail
        refine (Hm.out _).mono ?_
        rintro e w1 ⟨rfl, rfl⟩
        go_wp2_with fail
        refine (Hd.out _).mono ?_
        rintro e w1 ⟨rfl, rfl⟩
        go_wp2_with fail
        refine (Hc.out _).mono ?_
        rintro e w1 ⟨rfl, rfl⟩
        go_wp2_with fail
        refine (HA.out _).mono ?_
        rintro e w2 ⟨rfl, hB2⟩
        have hB3 : Below w.heap.size w w2 := hB1.trans (hB2.mono hB1.size)
        have p1 : w2.cell? ⟨w.heap.size, 1, none⟩ = some (.int .i64 d) := (hB2.cell hs1).trans q1
        have p2 : w2.cell? ⟨w.heap.size, 2, none⟩ = some (.int .i64 c) := (hB2.cell hs1).trans q2
        clear q0 q1 q2 hB1 hB2 hs1 HV HA HD Hm Hd Hc
        go_wp2_with fail
        refine (HD2.out _).mono ?_
        rintro e w1 ⟨rfl, rfl⟩
        go_wp2_with fail
        refine (HW.out _ hB3).mono ?_
        rintro e w1 ⟨rfl, k2, rfl⟩
        have hB4 := below_drewN hB3 k2
        go_wp2_with fail
        go_ret2
        exact ⟨rfl, hB4⟩
  · have hmid : dlMid x m d = false := by
      unfold dlMid
      rw [show (amE x m == 0) = false by rw [beq_eq_false_iff_ne]; exact hE]
      rfl
    have e1 : dlV n g x m d c = 0 := by unfold dlV; rw [if_pos hv, if_pos hi0, if_neg (by rw [hmid]; simp)]
    have e2 : dlE n g x m d c = 3 := by unfold dlE; rw [if_pos hv, if_pos hi0, if_neg (by rw [hmid]; simp)]
    rw [e1, e2]
    have d1 : (amE x m != 0) = true := by rw [bne_iff_ne]; exact hE
    clear e1 e2 hmid hE hi0 hv h HW HN HD2
    generalize amE x m = E at *
    generalize amV x m = A at *
    go_enter Tryd.func32, Tryd.ntmps32
    go_wp2_with fail
    have hB0 : Below w.heap.size w (w.alloc (.cells #[.int .i64 m, .int .i64 d, .int .i64 c] 47)) := (Below.refl _ _).alloc (Nat.le_refl _) _
    refine (HV.out _ hB0).mono ?_
    rintro e w1 ⟨rfl, k1, rfl⟩
    have q0 : ((w.alloc (.cells #[.int .i64 m, .int .i64 d, .int .i64 c] 47)).drewN k1).cell? ⟨w.heap.size, 0, none⟩ = some (.int .i64 m) := by simp [go_sem]
    have q1 : ((w.alloc (.cells #[.int .i64 m, .int .i64 d, .int .i64 c] 47)).drewN k1).cell? ⟨w.heap.size, 1, none⟩ = some (.int .i64 d) := by simp [go_sem]
    have q2 : ((w.alloc (.cells #[.int .i64 m, .int .i64 d, .int .i64 c] 47)).drewN k1).cell? ⟨w.heap.size, 2, none⟩ = some (.int .i64 c) := by simp [go_sem]
    have hB1 : Below w.heap.size w ((w.alloc (.cells #[.int .i64 m, .int .i64 d, .int .i64 c] 47)).drewN k1) := below_drewN hB0 _
    have hs1 : w.heap.size < ((w.alloc (.cells #[.int .i64 m, .int .i64 d, .int .i64 c] 47)).drewN k1).heap.size := by simp [go_sem]
    generalize (w.alloc (.cells #[.int .i64 m, .int .i64 d, .int .i64 c] 47)).drewN k1 = W at *
    clear hB0
    go_wp2_with fail
    refine (HD.out _).mono ?_
    rintro e w1 ⟨rfl, rfl⟩
    go_wp2_with fail
    refine (Hm.out _).mono ?_
    rintro e w1 ⟨rfl, rfl⟩
    go_wp2_with fail
    refine (Hd.out _).mono ?_
    rintro e w1 ⟨rfl, rfl⟩
    go_wp2_with fail
    refine (Hc.out _).mono ?_
    rintro e w1 ⟨rfl, rfl⟩
    go_wp2_with fail
    refine (HA.out _).mono ?_
    rintro e w2 ⟨rfl, hB2⟩
    have hB3 : Below w.heap.size w w2 := hB1.trans (hB2.mono hB1.size)
    have p1 : w2.cell? ⟨w.heap.size, 1, none⟩ = some (.int .i64 d) := (hB2.cell hs1).trans q1
    have p2 : w2.cell? ⟨w.heap.size, 2, none⟩ = some (.int .i64 c) := (hB2.cell hs1).trans q2
    clear q0 q1 q2 hB1 hB2 hs1 HV HA HD Hm Hd Hc
    go_wp2_with fail
    go_ret2
    exact ⟨rfl, hB3⟩

set_option maxHeartbeats 800000 in
theorem refDeadline_any (v : Value) (n : Nat) (g : Nat → Int) (x m d c : Int) (w : World) (h : ListAt w .i64 v n g) :
    Calls Tryd.prog 32 #[v, .int .i64 x, .agg #[.int .i64 m, .int .i64 d, .int .i64 c]] w fun e w' => e = .returned (.tuple #[.int .i64 (dlV n g x m d c), .int .i64 (dlE n g x m d c)]) ∧ Below w.heap.size w w' := by
  by_cases hv : validE n g = 0
  · cases hi : dlIn x m d c with
    | false => exact refDeadline_bad v n g x m d c w h hv hi
    | true => exact refDeadline_good v n g x m d c w h hv hi
  · have e1 : dlV n g x m d c = 0 := if_neg hv
    have e2 : dlE n g x m d c = validE n g := if_neg hv
    rw [e1, e2]
    have HV := Lib.hid (fun (w' : World) (hb : Below w.heap.size w w') => refValid_any v n g w' (listAt_below h hb))
    have d1 : (validE n g != 0) = true := by rw [bne_iff_ne]; exact hv
    clear e1 e2 h hv
    generalize validE n g = E at *
    go_enter Tryd.func32, Tryd.ntmps32
    go_wp2_with fail
    refine (HV.out _ ((Below.refl _ _).alloc (Nat.le_refl _) _)).mono ?_
    rintro e w1 ⟨rfl, m, rfl⟩
    go_wp2_with fail
    go_ret2
    exact ⟨rfl, below_drewN ((Below.refl _ _).alloc (Nat.le_refl _) _) _⟩
end Go.Proofs.YtnegiopbccllcaaDoor
