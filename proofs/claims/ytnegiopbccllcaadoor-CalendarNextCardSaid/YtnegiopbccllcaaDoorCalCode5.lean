/- What Deadline of the package calendar returns. Condition: the list's cells are known, and the package's table holds what the program lays in it. -/
import Derived.Test.YtnegiopbccllcaaDoorCalCode2
import Derived.Test.YtnegiopbccllcaaDoorCalCode4
namespace Go.Proofs.YtnegiopbccllcaaDoor
open Go.RowKit

/-- The term lies in block B; nothing older than w has turned. -/
structure TermAt (w W : World) (B : Nat) (m d c : Int) : Prop where
  c0 : W.cell? ⟨B, 0, none⟩ = some (.int .i64 m)
  c1 : W.cell? ⟨B, 1, none⟩ = some (.int .i64 d)
  c2 : W.cell? ⟨B, 2, none⟩ = some (.int .i64 c)
  below : Below w.heap.size w W
theorem TermAt.keep {w W W1 : World} {B : Nat} {m d c : Int} (h : TermAt w W B m d c) (hb : Below W.heap.size W W1) : TermAt w W1 B m d c := by
  have hlt : B < W.heap.size := World.block_lt_of_cell? _ _ h.c0
  exact ⟨(hb.cell hlt).trans h.c0, (hb.cell hlt).trans h.c1, (hb.cell hlt).trans h.c2, h.below.trans (hb.mono h.below.size)⟩
theorem TermAt.alloc {w W : World} {B : Nat} {m d c : Int} (h : TermAt w W B m d c) (o : Obj) : TermAt w (W.alloc o) B m d c := h.keep ((Below.refl _ _).alloc (Nat.le_refl _) _)

set_option maxRecDepth 100000 in
set_option maxHeartbeats 1600000 in
theorem calDl_invalid (v : Value) (n : Nat) (g : Nat → Int) (x m d c E : Int) (w : World) (h : ListAt w .i64 v n g) (hv : validE n g = E) (hE : (E != 0) = true) :
    Calls Tryd.prog 31 #[v, .int .i64 x, .agg #[.int .i64 m, .int .i64 d, .int .i64 c]] w fun e w' => e = .returned (.tuple #[.int .i64 (0), .int .i64 (E)]) ∧ Below w.heap.size w w' := by
  have HV := Lib.hid (fun (w1 : World) (hb : Below w.heap.size w w1) => calValid_any v n g w1 (listAt_below h hb))
  rw [hv] at HV
  clear h hv
  go_enter Tryd.func31, Tryd.ntmps31
  go_wp2_with fail
  have H0 : TermAt w (w.alloc (.cells #[.int .i64 m, .int .i64 d, .int .i64 c] 47)) w.heap.size m d c := ⟨by simp [go_sem], by simp [go_sem], by simp [go_sem], (Below.refl _ _).alloc (Nat.le_refl _) _⟩
  generalize w.alloc (.cells #[.int .i64 m, .int .i64 d, .int .i64 c] 47) = W0 at *
  refine (HV.out _ H0.below).mono ?_
  rintro e w1 ⟨rfl, hb⟩
  have H1 := H0.keep hb
  clear HV hb H0
  go_wp2_with fail
  go_ret2
  exact ⟨rfl, H1.below⟩

set_option maxRecDepth 100000 in
set_option maxHeartbeats 1600000 in
theorem calDl_noday (v : Value) (n : Nat) (g : Nat → Int) (x m d c : Int) (w : World) (h : ListAt w .i64 v n g) (hv : validE n g = 0) (hx : dayB x = false) :
    Calls Tryd.prog 31 #[v, .int .i64 x, .agg #[.int .i64 m, .int .i64 d, .int .i64 c]] w fun e w' => e = .returned (.tuple #[.int .i64 (0), .int .i64 (2)]) ∧ Below w.heap.size w w' := by
  have HV := Lib.hid (fun (w1 : World) (hb : Below w.heap.size w w1) => calValid_any v n g w1 (listAt_below h hb))
  rw [hv] at HV
  have HD := Lib.hid (isDay_any x)
  rw [hx] at HD
  clear h hv hx
  go_enter Tryd.func31, Tryd.ntmps31
  go_wp2_with fail
  have H0 : TermAt w (w.alloc (.cells #[.int .i64 m, .int .i64 d, .int .i64 c] 47)) w.heap.size m d c := ⟨by simp [go_sem], by simp [go_sem], by simp [go_sem], (Below.refl _ _).alloc (Nat.le_refl _) _⟩
  generalize w.alloc (.cells #[.int .i64 m, .int .i64 d, .int .i64 c] 47) = W0 at *
  refine (HV.out _ H0.below).mono ?_
  rintro e w1 ⟨rfl, hb⟩
  have H1 := H0.keep hb
  clear HV hb H0
  go_wp2_with fail
  refine (HD.out _).mono ?_
  rintro e w2 ⟨rfl, hb⟩
  have H2 := H1.keep hb
  clear HD hb H1
  have q0 := H2.c0
  have q1 := H2.c1
  have q2 := H2.c2
  go_wp2_with fail
  go_ret2
  exact ⟨rfl, H2.below⟩

set_option maxRecDepth 100000 in
set_option maxHeartbeats 1600000 in
theorem calDl_range (v : Value) (n : Nat) (g : Nat → Int) (x m d c : Int) (w : World) (h : ListAt w .i64 v n g) (hv : validE n g = 0) (hx : dayB x = true) (hi : ((decide (0 ≤ m) && decide (m ≤ 1000)) && ((decide (0 ≤ d) && decide (d ≤ 1000)) && (decide (0 ≤ c) && decide (c ≤ 1000)))) = false) :
    Calls Tryd.prog 31 #[v, .int .i64 x, .agg #[.int .i64 m, .int .i64 d, .int .i64 c]] w fun e w' => e = .returned (.tuple #[.int .i64 (0), .int .i64 (2)]) ∧ Below w.heap.size w w' := by
  have HV := Lib.hid (fun (w1 : World) (hb : Below w.heap.size w w1) => calValid_any v n g w1 (listAt_below h hb))
  rw [hv] at HV
  have HD := Lib.hid (isDay_any x)
  rw [hx] at HD
  have HW := Lib.hid (fun b w1 h0 h1 h2 => calWithin_three 0 1000 m d c b w1 h0 h1 h2)
  clear h hv hx
  go_enter Tryd.func31, Tryd.ntmps31
  go_wp2_with fail
  have H0 : TermAt w (w.alloc (.cells #[.int .i64 m, .int .i64 d, .int .i64 c] 47)) w.heap.size m d c := ⟨by simp [go_sem], by simp [go_sem], by simp [go_sem], (Below.refl _ _).alloc (Nat.le_refl _) _⟩
  generalize w.alloc (.cells #[.int .i64 m, .int .i64 d, .int .i64 c] 47) = W0 at *
  refine (HV.out _ H0.below).mono ?_
  rintro e w1 ⟨rfl, hb⟩
  have H1 := H0.keep hb
  clear HV hb H0
  go_wp2_with fail
  refine (HD.out _).mono ?_
  rintro e w2 ⟨rfl, hb⟩
  have H2 := H1.keep hb
  clear HD hb H1
  have q0 := H2.c0
  have q1 := H2.c1
  have q2 := H2.c2
  go_wp2_with fail
  have H3 := H2.alloc (.cells #[.int .i64 m, .int .i64 d, .int .i64 c] 3)
  refine (HW.out w2.heap.size _ (by simp [go_sem]) (by simp [go_sem]) (by simp [go_sem])).mono ?_
  rintro e w3 ⟨rfl, rfl⟩
  rw [hi]
  clear q0 q1 q2 H2 HW
  generalize w2.alloc (.cells #[.int .i64 m, .int .i64 d, .int .i64 c] 3) = W3 at *
  have q0 := H3.c0
  go_wp2_with fail
  go_ret2
  exact ⟨rfl, H3.below⟩

set_option maxRecDepth 100000 in
set_option maxHeartbeats 1600000 in
theorem calDl_months (v : Value) (n : Nat) (g : Nat → Int) (x m d c : Int) (w : World) (h : ListAt w .i64 v n g) (hT : CalTab w) (hv : validE n g = 0) (hx : dayB x = true) (hi : ((decide (0 ≤ m) && decide (m ≤ 1000)) && ((decide (0 ≤ d) && decide (d ≤ 1000)) && (decide (0 ≤ c) && decide (c ≤ 1000)))) = true) (hm : amE x m = 3) :
    Calls Tryd.prog 31 #[v, .int .i64 x, .agg #[.int .i64 m, .int .i64 d, .int .i64 c]] w fun e w' => e = .returned (.tuple #[.int .i64 (0), .int .i64 (3)]) ∧ Below w.heap.size w w' := by
  have HV := Lib.hid (fun (w1 : World) (hb : Below w.heap.size w w1) => calValid_any v n g w1 (listAt_below h hb))
  rw [hv] at HV
  have HD := Lib.hid (isDay_any x)
  rw [hx] at HD
  have HW := Lib.hid (fun b w1 h0 h1 h2 => calWithin_three 0 1000 m d c b w1 h0 h1 h2)
  have HA := Lib.hid (fun w1 (h : CalTab w1) => calAddMonths_any x m w1 h)
  have hAr := am_range x m
  rw [hm] at HA
  clear h hv hx hm
  generalize amV x m = A at *
  go_enter Tryd.func31, Tryd.ntmps31
  go_wp2_with fail
  have H0 : TermAt w (w.alloc (.cells #[.int .i64 m, .int .i64 d, .int .i64 c] 47)) w.heap.size m d c := ⟨by simp [go_sem], by simp [go_sem], by simp [go_sem], (Below.refl _ _).alloc (Nat.le_refl _) _⟩
  generalize w.alloc (.cells #[.int .i64 m, .int .i64 d, .int .i64 c] 47) = W0 at *
  refine (HV.out _ H0.below).mono ?_
  rintro e w1 ⟨rfl, hb⟩
  have H1 := H0.keep hb
  clear HV hb H0
  go_wp2_with fail
  refine (HD.out _).mono ?_
  rintro e w2 ⟨rfl, hb⟩
  have H2 := H1.keep hb
  clear HD hb H1
  have q0 := H2.c0
  have q1 := H2.c1
  have q2 := H2.c2
  go_wp2_with fail
  have H3 := H2.alloc (.cells #[.int .i64 m, .int .i64 d, .int .i64 c] 3)
  refine (HW.out w2.heap.size _ (by simp [go_sem]) (by simp [go_sem]) (by simp [go_sem])).mono ?_
  rintro e w3 ⟨rfl, rfl⟩
  rw [hi]
  clear q0 q1 q2 H2 HW
  generalize w2.alloc (.cells #[.int .i64 m, .int .i64 d, .int .i64 c] 3) = W3 at *
  have q0 := H3.c0
  go_wp2_with fail
  refine (HA.out _ (hT.keep H3.below)).mono ?_
  rintro e w4 ⟨rfl, hb⟩
  have H4 := H3.keep hb
  clear HA hb H3 q0 hT
  have q1 := H4.c1
  go_wp2_with fail
  go_ret2
  exact ⟨rfl, H4.below⟩

set_option maxRecDepth 100000 in
set_option maxHeartbeats 1600000 in
theorem calDl_late (v : Value) (n : Nat) (g : Nat → Int) (x m d c : Int) (w : World) (h : ListAt w .i64 v n g) (hT : CalTab w) (hv : validE n g = 0) (hx : dayB x = true) (hi : ((decide (0 ≤ m) && decide (m ≤ 1000)) && ((decide (0 ≤ d) && decide (d ≤ 1000)) && (decide (0 ≤ c) && decide (c ≤ 1000)))) = true) (hm : amE x m = 0) (hd : dayB (amV x m + d) = false) :
    Calls Tryd.prog 31 #[v, .int .i64 x, .agg #[.int .i64 m, .int .i64 d, .int .i64 c]] w fun e w' => e = .returned (.tuple #[.int .i64 (0), .int .i64 (3)]) ∧ Below w.heap.size w w' := by
  have HV := Lib.hid (fun (w1 : World) (hb : Below w.heap.size w w1) => calValid_any v n g w1 (listAt_below h hb))
  rw [hv] at HV
  have HD := Lib.hid (isDay_any x)
  rw [hx] at HD
  have HW := Lib.hid (fun b w1 h0 h1 h2 => calWithin_three 0 1000 m d c b w1 h0 h1 h2)
  have HA := Lib.hid (fun w1 (h : CalTab w1) => calAddMonths_any x m w1 h)
  have hAr := am_range x m
  have HE := Lib.hid (isDay_any (amV x m + d))
  have hdr : 0 ≤ d ∧ d ≤ 1000 := by simp at hi; omega
  rw [hm] at HA
  rw [hd] at HE
  clear h hv hx hm hd
  generalize amV x m = A at *
  go_enter Tryd.func31, Tryd.ntmps31
  go_wp2_with fail
  have H0 : TermAt w (w.alloc (.cells #[.int .i64 m, .int .i64 d, .int .i64 c] 47)) w.heap.size m d c := ⟨by simp [go_sem], by simp [go_sem], by simp [go_sem], (Below.refl _ _).alloc (Nat.le_refl _) _⟩
  generalize w.alloc (.cells #[.int .i64 m, .int .i64 d, .int .i64 c] 47) = W0 at *
  refine (HV.out _ H0.below).mono ?_
  rintro e w1 ⟨rfl, hb⟩
  have H1 := H0.keep hb
  clear HV hb H0
  go_wp2_with fail
  refine (HD.out _).mono ?_
  rintro e w2 ⟨rfl, hb⟩
  have H2 := H1.keep hb
  clear HD hb H1
  have q0 := H2.c0
  have q1 := H2.c1
  have q2 := H2.c2
  go_wp2_with fail
  have H3 := H2.alloc (.cells #[.int .i64 m, .int .i64 d, .int .i64 c] 3)
  refine (HW.out w2.heap.size _ (by simp [go_sem]) (by simp [go_sem]) (by simp [go_sem])).mono ?_
  rintro e w3 ⟨rfl, rfl⟩
  rw [hi]
  clear q0 q1 q2 H2 HW
  generalize w2.alloc (.cells #[.int .i64 m, .int .i64 d, .int .i64 c] 3) = W3 at *
  have q0 := H3.c0
  go_wp2_with fail
  refine (HA.out _ (hT.keep H3.below)).mono ?_
  rintro e w4 ⟨rfl, hb⟩
  have H4 := H3.keep hb
  clear HA hb H3 q0 hT
  have q1 := H4.c1
  go_wp2_with fail
  refine (HE.out _).mono ?_
  rintro e w5 ⟨rfl, hb⟩
  have H5 := H4.keep hb
  clear HE hb H4 q1
  have q2 := H5.c2
  go_wp2_with fail
  go_ret2
  exact ⟨rfl, H5.below⟩

set_option maxRecDepth 100000 in
set_option maxHeartbeats 1600000 in
theorem calDl_work (v : Value) (n : Nat) (g : Nat → Int) (x m d c : Int) (w : World) (h : ListAt w .i64 v n g) (hT : CalTab w) (hv : validE n g = 0) (hx : dayB x = true) (hi : ((decide (0 ≤ m) && decide (m ≤ 1000)) && ((decide (0 ≤ d) && decide (d ≤ 1000)) && (decide (0 ≤ c) && decide (c ≤ 1000)))) = true) (hm : amE x m = 0) (hd : dayB (amV x m + d) = true) (F : Int) (hF : awE n g (amV x m + d) c = F) (hFn : (F != 0) = true) :
    Calls Tryd.prog 31 #[v, .int .i64 x, .agg #[.int .i64 m, .int .i64 d, .int .i64 c]] w fun e w' => e = .returned (.tuple #[.int .i64 (0), .int .i64 (F)]) ∧ Below w.heap.size w w' := by
  have HV := Lib.hid (fun (w1 : World) (hb : Below w.heap.size w w1) => calValid_any v n g w1 (listAt_below h hb))
  rw [hv] at HV
  have HD := Lib.hid (isDay_any x)
  rw [hx] at HD
  have HW := Lib.hid (fun b w1 h0 h1 h2 => calWithin_three 0 1000 m d c b w1 h0 h1 h2)
  have HA := Lib.hid (fun w1 (h : CalTab w1) => calAddMonths_any x m w1 h)
  have hAr := am_range x m
  have HE := Lib.hid (isDay_any (amV x m + d))
  have HX := Lib.hid (fun (w1 : World) (hb : Below w.heap.size w w1) => calAdd_any v n g (amV x m + d) c w1 (listAt_below h hb))
  have hdr : 0 ≤ d ∧ d ≤ 1000 := by simp at hi; omega
  rw [hm] at HA
  rw [hd] at HE
  rw [hF] at HX
  clear h hv hx hm hd hF
  generalize awV n g (amV x m + d) c = V at *
  generalize amV x m = A at *
  go_enter Tryd.func31, Tryd.ntmps31
  go_wp2_with fail
  have H0 : TermAt w (w.alloc (.cells #[.int .i64 m, .int .i64 d, .int .i64 c] 47)) w.heap.size m d c := ⟨by simp [go_sem], by simp [go_sem], by simp [go_sem], (Below.refl _ _).alloc (Nat.le_refl _) _⟩
  generalize w.alloc (.cells #[.int .i64 m, .int .i64 d, .int .i64 c] 47) = W0 at *
  refine (HV.out _ H0.below).mono ?_
  rintro e w1 ⟨rfl, hb⟩
  have H1 := H0.keep hb
  clear HV hb H0
  go_wp2_with fail
  refine (HD.out _).mono ?_
  rintro e w2 ⟨rfl, hb⟩
  have H2 := H1.keep hb
  clear HD hb H1
  have q0 := H2.c0
  have q1 := H2.c1
  have q2 := H2.c2
  go_wp2_with fail
  have H3 := H2.alloc (.cells #[.int .i64 m, .int .i64 d, .int .i64 c] 3)
  refine (HW.out w2.heap.size _ (by simp [go_sem]) (by simp [go_sem]) (by simp [go_sem])).mono ?_
  rintro e w3 ⟨rfl, rfl⟩
  rw [hi]
  clear q0 q1 q2 H2 HW
  generalize w2.alloc (.cells #[.int .i64 m, .int .i64 d, .int .i64 c] 3) = W3 at *
  have q0 := H3.c0
  go_wp2_with fail
  refine (HA.out _ (hT.keep H3.below)).mono ?_
  rintro e w4 ⟨rfl, hb⟩
  have H4 := H3.keep hb
  clear HA hb H3 q0 hT
  have q1 := H4.c1
  go_wp2_with fail
  refine (HE.out _).mono ?_
  rintro e w5 ⟨rfl, hb⟩
  have H5 := H4.keep hb
  clear HE hb H4 q1
  have q2 := H5.c2
  go_wp2_with fail
  refine (HX.out _ H5.below).mono ?_
  rintro e w6 ⟨rfl, hb⟩
  have H6 := H5.keep hb
  clear HX hb H5 q2
  go_wp2_with fail
  go_ret2
  exact ⟨rfl, H6.below⟩

set_option maxRecDepth 100000 in
set_option maxHeartbeats 1600000 in
theorem calDl_all (v : Value) (n : Nat) (g : Nat → Int) (x m d c : Int) (w : World) (h : ListAt w .i64 v n g) (hT : CalTab w) (hv : validE n g = 0) (hx : dayB x = true) (hi : ((decide (0 ≤ m) && decide (m ≤ 1000)) && ((decide (0 ≤ d) && decide (d ≤ 1000)) && (decide (0 ≤ c) && decide (c ≤ 1000)))) = true) (hm : amE x m = 0) (hd : dayB (amV x m + d) = true) (hF : awE n g (amV x m + d) c = 0) (r : Nat) (hr : awV n g (amV x m + d) c = r) (hr2 : r ≤ 36524) :
    Calls Tryd.prog 31 #[v, .int .i64 x, .agg #[.int .i64 m, .int .i64 d, .int .i64 c]] w fun e w' => e = .returned (.tuple #[.int .i64 (nwV n g r), .int .i64 (nwE n g r)]) ∧ Below w.heap.size w w' := by
  have HV := Lib.hid (fun (w1 : World) (hb : Below w.heap.size w w1) => calValid_any v n g w1 (listAt_below h hb))
  rw [hv] at HV
  have HD := Lib.hid (isDay_any x)
  rw [hx] at HD
  have HW := Lib.hid (fun b w1 h0 h1 h2 => calWithin_three 0 1000 m d c b w1 h0 h1 h2)
  have HA := Lib.hid (fun w1 (h : CalTab w1) => calAddMonths_any x m w1 h)
  have hAr := am_range x m
  have HE := Lib.hid (isDay_any (amV x m + d))
  have HX := Lib.hid (fun (w1 : World) (hb : Below w.heap.size w w1) => calAdd_any v n g (amV x m + d) c w1 (listAt_below h hb))
  have hdr : 0 ≤ d ∧ d ≤ 1000 := by simp at hi; omega
  have hday : dayB (r : Int) = true := (dayB_iff _).2 (by omega)
  have HF := Lib.hid (fun (w1 : World) (hb : Below w.heap.size w w1) => firstWorking_any v n g r (by omega) w1 (listAt_below h hb) hv)
  rw [show fwR n g r = nwR n g r from if_pos hr2] at HF
  rw [show nwV n g r = outV (nwR n g r) by unfold nwV; rw [if_pos hv, if_pos hday]; rfl, show nwE n g r = outE (nwR n g r) by unfold nwE; rw [if_pos hv, if_pos hday]; rfl]
  rw [hm] at HA
  rw [hd] at HE
  rw [hF, hr] at HX
  clear h hv hx hm hd hF hr hday
  generalize nwR n g r = R at *
  generalize amV x m = A at *
  go_enter Tryd.func31, Tryd.ntmps31
  go_wp2_with fail
  have H0 : TermAt w (w.alloc (.cells #[.int .i64 m, .int .i64 d, .int .i64 c] 47)) w.heap.size m d c := ⟨by simp [go_sem], by simp [go_sem], by simp [go_sem], (Below.refl _ _).alloc (Nat.le_refl _) _⟩
  generalize w.alloc (.cells #[.int .i64 m, .int .i64 d, .int .i64 c] 47) = W0 at *
  refine (HV.out _ H0.below).mono ?_
  rintro e w1 ⟨rfl, hb⟩
  have H1 := H0.keep hb
  clear HV hb H0
  go_wp2_with fail
  refine (HD.out _).mono ?_
  rintro e w2 ⟨rfl, hb⟩
  have H2 := H1.keep hb
  clear HD hb H1
  have q0 := H2.c0
  have q1 := H2.c1
  have q2 := H2.c2
  go_wp2_with fail
  have H3 := H2.alloc (.cells #[.int .i64 m, .int .i64 d, .int .i64 c] 3)
  refine (HW.out w2.heap.size _ (by simp [go_sem]) (by simp [go_sem]) (by simp [go_sem])).mono ?_
  rintro e w3 ⟨rfl, rfl⟩
  rw [hi]
  clear q0 q1 q2 H2 HW
  generalize w2.alloc (.cells #[.int .i64 m, .int .i64 d, .int .i64 c] 3) = W3 at *
  have q0 := H3.c0
  go_wp2_with fail
  refine (HA.out _ (hT.keep H3.below)).mono ?_
  rintro e w4 ⟨rfl, hb⟩
  have H4 := H3.keep hb
  clear HA hb H3 q0 hT
  have q1 := H4.c1
  go_wp2_with fail
  refine (HE.out _).mono ?_
  rintro e w5 ⟨rfl, hb⟩
  have H5 := H4.keep hb
  clear HE hb H4 q1
  have q2 := H5.c2
  go_wp2_with fail
  refine (HX.out _ H5.below).mono ?_
  rintro e w6 ⟨rfl, hb⟩
  have H6 := H5.keep hb
  clear HX hb H5 q2
  go_wp2_with fail
  refine (HF.out _ H6.below).mono ?_
  rintro e w7 ⟨rfl, hb⟩
  have H7 := H6.keep hb
  clear HF hb H6
  go_wp2_with fail
  go_ret2
  exact ⟨rfl, H7.below⟩

theorem aw_range (n : Nat) (g : Nat → Int) (x c : Int) (hd : dayB x = true) : ∃ r : Nat, awV n g x c = r ∧ r ≤ 36524 := by
  obtain ⟨h1, h2⟩ := (dayB_iff x).1 hd
  unfold awV
  split
  · split
    · unfold awR
      cases hA : advN (wkB n g) (36524 - x.toNat) x.toNat c.toNat with
      | none => exact ⟨0, rfl, by omega⟩
      | some r =>
        have := adv_ge _ _ _ _ _ hA
        exact ⟨r, rfl, by omega⟩
    · exact ⟨0, rfl, by omega⟩
  · exact ⟨0, rfl, by omega⟩
theorem calDeadline_any (v : Value) (n : Nat) (g : Nat → Int) (x m d c : Int) (w : World) (h : ListAt w .i64 v n g) (hT : CalTab w) :
    Calls Tryd.prog 31 #[v, .int .i64 x, .agg #[.int .i64 m, .int .i64 d, .int .i64 c]] w fun e w' => e = .returned (.tuple #[.int .i64 (dlV n g x m d c), .int .i64 (dlE n g x m d c)]) ∧ Below w.heap.size w w' := by
  by_cases hv : validE n g = 0
  · cases hx : dayB x with
    | false =>
      have hi0 : dlIn x m d c = false := by unfold dlIn; rw [hx]; rfl
      rw [show dlV n g x m d c = 0 by unfold dlV; rw [if_pos hv, if_neg (by rw [hi0]; simp)], show dlE n g x m d c = 2 by unfold dlE; rw [if_pos hv, if_neg (by rw [hi0]; simp)]]
      exact calDl_noday v n g x m d c w h hv hx
    | true =>
      have hin : dlIn x m d c = ((decide (0 ≤ m) && decide (m ≤ 1000)) && ((decide (0 ≤ d) && decide (d ≤ 1000)) && (decide (0 ≤ c) && decide (c ≤ 1000)))) := by unfold dlIn; rw [hx]; rfl
      cases hi : ((decide (0 ≤ m) && decide (m ≤ 1000)) && ((decide (0 ≤ d) && decide (d ≤ 1000)) && (decide (0 ≤ c) && decide (c ≤ 1000)))) with
      | false =>
        have hi0 := hin.trans hi
        rw [show dlV n g x m d c = 0 by unfold dlV; rw [if_pos hv, if_neg (by rw [hi0]; simp)], show dlE n g x m d c = 2 by unfold dlE; rw [if_pos hv, if_neg (by rw [hi0]; simp)]]
        exact calDl_range v n g x m d c w h hv hx hi
      | true =>
        have hi0 := hin.trans hi
        by_cases hm : amE x m = 0
        · cases hd : dayB (amV x m + d) with
          | false =>
            have hmid : dlMid x m d = false := by unfold dlMid; rw [hd]; simp
            rw [show dlV n g x m d c = 0 by unfold dlV; rw [if_pos hv, if_pos hi0, if_neg (by rw [hmid]; simp)], show dlE n g x m d c = 3 by unfold dlE; rw [if_pos hv, if_pos hi0, if_neg (by rw [hmid]; simp)]]
            exact calDl_late v n g x m d c w h hT hv hx hi hm hd
          | true =>
            have hmid : dlMid x m d = true := by unfold dlMid; rw [hd, hm]; rfl
            by_cases hW : awE n g (amV x m + d) c = 0
            · obtain ⟨r, hr, hr2⟩ := aw_range n g (amV x m + d) c hd
              rw [show dlV n g x m d c = nwV n g r by unfold dlV; rw [if_pos hv, if_pos hi0, if_pos hmid, if_pos hW, hr], show dlE n g x m d c = nwE n g r by unfold dlE; rw [if_pos hv, if_pos hi0, if_pos hmid, if_pos hW, hr]]
              exact calDl_all v n g x m d c w h hT hv hx hi hm hd hW r hr hr2
            · rw [show dlV n g x m d c = 0 by unfold dlV; rw [if_pos hv, if_pos hi0, if_pos hmid, if_neg hW], show dlE n g x m d c = awE n g (amV x m + d) c by unfold dlE; rw [if_pos hv, if_pos hi0, if_pos hmid, if_neg hW]]
              exact calDl_work v n g x m d c w h hT hv hx hi hm hd _ rfl (by rw [bne_iff_ne]; exact hW)
        · have hmid : dlMid x m d = false := by
            unfold dlMid
            rw [beq_eq_false_iff_ne.2 hm]
            rfl
          have hm3 : amE x m = 3 := by
            unfold amE amBad at hm ⊢
            rw [hx] at hm ⊢
            simp at hi
            have hb : (decide (m < -1200) || decide (1200 < m)) = false := by simp; omega
            rw [hb] at hm ⊢
            simp at hm ⊢
            exact hm
          rw [show dlV n g x m d c = 0 by unfold dlV; rw [if_pos hv, if_pos hi0, if_neg (by rw [hmid]; simp)], show dlE n g x m d c = 3 by unfold dlE; rw [if_pos hv, if_pos hi0, if_neg (by rw [hmid]; simp)]]
          exact calDl_months v n g x m d c w h hT hv hx hi hm3
  · rw [show dlV n g x m d c = 0 from if_neg hv, show dlE n g x m d c = validE n g from if_neg hv]
    exact calDl_invalid v n g x m d c _ w h rfl (by rw [bne_iff_ne]; exact hv)
end Go.Proofs.YtnegiopbccllcaaDoor
