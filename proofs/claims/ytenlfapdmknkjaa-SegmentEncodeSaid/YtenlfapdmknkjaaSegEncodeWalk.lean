/- The walk through SegmentEncode. Condition: the list's and the segment's cells are known. -/
import Derived.Test.YtenlfapdmknkjaaSegCells
import Derived.Test.YtenlfapdmknkjaaSegMade2
import Derived.Test.YtenlfapdmknkjaaWithin
import Derived.Deep.RegionHeld3
namespace Go.Proofs.Ytenlfapdmknkjaa
open Go.RowKit

theorem raw_news {w : World} {B : Nat} {x y : Value} (h0 : w.cell? ⟨B, 0, none⟩ = some x) (h1 : w.cell? ⟨B, 1, none⟩ = some y) : ∀ ad, some (⟨B, 0, none⟩ : Addr) = some ad → ∀ j u, ([x, y] : List Value)[j]? = some u → w.cell? (ad.add j) = some u := by
  intro ad had j u hj
  cases had
  rw [Addr.add_lit, Nat.zero_add]
  match j with
  | 0 =>
    simp at hj
    rw [← hj]
    exact h0
  | 1 =>
    simp at hj
    rw [← hj]
    exact h1
  | j + 2 => simp at hj

set_option maxRecDepth 100000 in
set_option maxHeartbeats 6400000 in
theorem segmentEncode_walk (v : Value) (n : Nat) (f : Nat → Int) (t : List UInt8) (ht : t.length ≤ maxLen) (x : Value) (E : List (List (List UInt8))) (at_ : Int) (w : World) (h : ListAt w .i64 v n f) (hx : ElemsIn (Has_ w) w x E) :
    Calls Try.prog 4 #[v, .agg #[strV t, x], .int .i64 at_] w fun e w' => e = .returned (.bool true) ∧ Below w.heap.size w w' := by
  have HE := Lib.hid (fun v L w h hn => segEncode_any v L w h hn)
  have HR := Lib.hid (fun v L w h hn => refEncode_any v L w h hn)
  have HA := Lib.hid (fun w => awake6_any w)
  have HW := Lib.hid (fun n w h1 h2 => madeWithin_any at_ n h1 h2 w)
  obtain ⟨xo, xc, rfl⟩ := hx.slice
  have hb0 := below_alloc w (.cells #[.string ⟨t.toArray⟩, .slice xo E.length xc] 24)
  have HM := Lib.hid (madeSegments_any v n f (w.alloc (.cells #[.string ⟨t.toArray⟩, .slice xo E.length xc] 24)) (by
    rcases h with h | ⟨a, cap, h1, h2, h3, h4⟩
    · exact .inl h
    · exact .inr ⟨a, cap, h1, h2, h3, fun i hi => ⟨cellAt hb0 (h4 i hi).1, (h4 i hi).2⟩⟩))
  have hX0 := Lib.hid (hx.later hb0)
  obtain ⟨p0, p1⟩ := var_laid w t (.slice xo E.length xc)
  clear h hx
  unfold strV
  go_enter Try.func4, Try.ntmps4
  go_wp2_with fail
  generalize w.alloc (.cells #[.string ⟨t.toArray⟩, .slice xo E.length xc] 24) = w0 at *
  generalize w.heap.size = P at p0 p1 ⊢
  refine HM.out.mono ?_
  rintro e w1 ⟨vs, L, rfl, hL12, hval, hV, hb1⟩
  obtain ⟨e1, e2⟩ := encode_dec hval
  obtain ⟨so, sc, rfl, hs1, hs2⟩ := hV.slice
  have hV1 := Lib.hid hV
  have hX1 := Lib.hid (hX0.out.later hb1)
  have p0 := cellAt hb1 p0
  have p1 := cellAt hb1 p1
  have hL1 := Lib.hid (below_next hb0 hb1)
  clear HM hV hX0 hb0 hb1 e2 hval
  generalize L.flatMap encS = fl at *
  go_wp2_with fail
  have HE1 := HE.out _ L _ hV1.out (by omega)
  rw [e1] at HE1
  refine HE1.mono ?_
  rintro e w2 ⟨u, rfl, hu, hb⟩
  have hU2 := Lib.hid hu
  have hV2 := Lib.hid (hV1.out.later hb)
  have hX2 := Lib.hid (hX1.out.later hb)
  have p0 := cellAt hb p0
  have p1 := cellAt hb p1
  have hL2 := Lib.hid (below_next hL1.out hb)
  clear HE1 hu hb hV1 hX1 hL1
  dsimp only at *
  go_wp2_with fail
  have HR1 := HR.out _ L _ hV2.out (by omega)
  rw [e1] at HR1
  refine HR1.mono ?_
  rintro e w3 ⟨u3, rfl, hu, hb⟩
  have hcu := (hU2.out.later hb).text
  have hcv := hu.bytes.text
  have hV3 := Lib.hid (hV2.out.later hb)
  have hX3 := Lib.hid (hX2.out.later hb)
  have p0 := cellAt hb p0
  have p1 := cellAt hb p1
  have hL3 := Lib.hid (below_next hL2.out hb)
  clear HR1 hu hb hV2 hX2 hL2 hU2 e1
  dsimp only at *
  have hw1 : IntKind.i64.wrap ((L.length : Int) + 1) = (L.length : Int) + 1 := by rw [IntKind.wrap_i64]; omega
  go_wp2_with fail
  refine (HW.out ((L.length : Int) + 1) _ (by omega) (by omega)).mono ?_
  rintro e w4 ⟨rfl, rfl⟩
  have hk1 := Int.emod_nonneg at_ (show ((L.length : Int) + 1) ≠ 0 by omega)
  have hk2 := Int.emod_lt_of_pos at_ (show 0 < ((L.length : Int) + 1) by omega)
  obtain ⟨k, hk⟩ : ∃ k : Nat, at_ % ((L.length : Int) + 1) = k := ⟨(at_ % ((L.length : Int) + 1)).toNat, by omega⟩
  rw [hk] at hk1 hk2 ⊢
  have hkl : k ≤ L.length := by omega
  clear hk hcu hcv hk1 hk2 hw1
  have j1 : (0 : Int) ≤ (k : Int) := by omega
  have j2 : (k : Int) ≤ (L.length : Int) := by omega
  have j3 : (k : Int) ≤ (sc : Int) := by omega
  go_wp2_with fail
  have hcell := hV3.out.row
  obtain ⟨us, hcu, hcs0⟩ := hcell
  have hcs := Lib.hid hcs0
  have hul : us.length = L.length * 2 := hcs0.1
  have hlt : (us.take (k * 2)).length = k * 2 := by rw [List.length_take]; omega
  have hlt2 : (us.drop (k * 2)).length = (L.length - k) * 2 := by rw [List.length_drop]; omega
  have hone1 := Lib.hid (hcs0.take k hkl).one
  have hone3 := Lib.hid (hcs0.drop k hkl).one
  have hone2 := Lib.hid (show ∀ u ∈ ([.string ⟨t.toArray⟩, .slice xo E.length xc] : List Value), u.oneCell' = true from (by intro u hu; simp at hu; rcases hu with rfl | rfl <;> rfl))
  have KB : ∀ w', Below w3.heap.size w3 w' → ∀ o, Below w3.heap.size w3 (w'.alloc o) := fun w' h o => h.alloc h.size o
  have KD : ∀ w', Below w3.heap.size w3 w' → Below w3.heap.size w3 w'.drew := fun w' h => h.drew
  have hK := Lib.hid (Below.refl w3.heap.size w3)
  have TK0 := Lib.hid (fun W (hW : Below w3.heap.size w3 W) ad (had : so = some ad) j x (hx : (us.take (k * 2))[j]? = some x) => cellAt hW (cells_take hcu k ad had j x hx))
  obtain ⟨i0, hi0, hz0, hz1, hz2⟩ := info_parts info_seg1
  have M1 := Lib.hid (show (w3.alloc (.cells #[] 24)).ownsRow w3.heap.size 24 2 (.slice (some ⟨w3.heap.size, 0, none⟩) 0 0) 0 [] from World.ownsRow_lit w3 #[] 0 (Nat.le_refl _) (Nat.zero_le _) rfl)
  have M3 := Lib.hid (show ((w3.alloc (.cells #[.string ⟨t.toArray⟩, .slice xo E.length xc] 24)).alloc (.cells #[] 24)).ownsRow w3.heap.size 24 2 (.slice (some ⟨w3.heap.size + 1, 0, none⟩) 0 0) 0 [] from by
    have hs : (w3.alloc (.cells #[.string ⟨t.toArray⟩, .slice xo E.length xc] 24)).heap.size = w3.heap.size + 1 := by simp
    rw [← hs]
    exact World.ownsRow_lit _ #[] 0 (by rw [hs]; omega) (Nat.zero_le _) rfl)
  have M2 := Lib.hid (show ((w3.alloc (.cells #[] 24)).alloc (.cells #[.string ⟨t.toArray⟩, .slice xo E.length xc] 24)).ownsRow w3.heap.size 24 2 (.slice (some ⟨w3.heap.size, 0, none⟩) 0 0) 0 [] from M1.out.alloc _)
  have HX2 := Lib.hid (by
    have hs : (w3.alloc (.cells #[] 24)).heap.size = w3.heap.size + 1 := by simp
    have := var_laid (w3.alloc (.cells #[] 24)) t (.slice xo E.length xc)
    rw [hs] at this
    exact this : ((w3.alloc (.cells #[] 24)).alloc (.cells #[.string ⟨t.toArray⟩, .slice xo E.length xc] 24)).cell? ⟨w3.heap.size + 1, 0, none⟩ = some (.string ⟨t.toArray⟩) ∧ ((w3.alloc (.cells #[] 24)).alloc (.cells #[.string ⟨t.toArray⟩, .slice xo E.length xc] 24)).cell? ⟨w3.heap.size + 1, 1, none⟩ = some (.slice xo E.length xc))
  have HX3 := Lib.hid (by
    obtain ⟨a0, a1⟩ := var_laid w3 t (.slice xo E.length xc)
    exact ⟨cellAt (below_alloc _ _) a0, cellAt (below_alloc _ _) a1⟩ : ((w3.alloc (.cells #[.string ⟨t.toArray⟩, .slice xo E.length xc] 24)).alloc (.cells #[] 24)).cell? ⟨w3.heap.size, 0, none⟩ = some (.string ⟨t.toArray⟩) ∧ ((w3.alloc (.cells #[.string ⟨t.toArray⟩, .slice xo E.length xc] 24)).alloc (.cells #[] 24)).cell? ⟨w3.heap.size, 1, none⟩ = some (.slice xo E.length xc))
  clear hcs0 hV3
  rcases hso : so with _ | a
  · -- no segments
    subst hso
    obtain ⟨rfl, rfl⟩ : L = [] ∧ sc = 0 := by
      obtain ⟨_, ⟨h1, h2⟩ | ⟨a2, cap2, h2, _⟩⟩ := hcu
      · injection h1 with _ h3 h4
        exact ⟨List.eq_nil_of_length_eq_zero h2, h4⟩
      · cases h2
    obtain rfl : k = 0 := by simpa using hkl
    obtain rfl : us = [] := List.eq_nil_of_length_eq_zero (by simpa using hul)
    have TK := Lib.hid (fun W (hW : Below w3.heap.size w3 W) => TK0.out W hW)
    have DK := Lib.hid (show ∀ W, Below w3.heap.size w3 W → ∀ ad, (none : Option Addr) = some ad → ∀ j x, (([] : List Value).drop (0 * 2))[j]? = some x → W.cell? (ad.add j) = some x from fun W hW ad had => by cases had)
    have hN48 : Hid ((none : Option Addr) = none → 0 = 0 ∧ 0 = 0) := Lib.hid (fun h => ⟨rfl, rfl⟩)
    have hN55 : Hid ((none : Option Addr) = none → 0 = 0 ∧ 0 = 0) := Lib.hid (fun h => ⟨rfl, rfl⟩)
    clear TK0 hcu
    go_region_held3 (fun w' => w'.cell? ⟨P, 0, none⟩ = some (.string ⟨t.toArray⟩) ∧ w'.cell? ⟨P, 1, none⟩ = some (.slice xo E.length xc) ∧ Below w3.heap.size w3 w')
      (refine (fun h => ⟨cellAt h p0, cellAt h p1, h⟩) ?_ <;> repeat (first | exact hK.out | assumption | refine KB _ ?_ _ | refine KD _ ?_))
      (first
        | (refine step_append_own rfl (.tmp 44) (.tmp 47) 30 rfl w3.heap.size 24 i0 _ 2 40 Try.underlying30 hi0 hz0 hz1 hz2 rfl (by omega) (.slice (some ⟨w3.heap.size, 0, none⟩) 0 0) 0 [] rfl M1.out (by simp; try omega) _ _ _ (([] : List Value).take (0 * 2)) rfl hlt hN48.out (TK.out _ (by repeat (first | exact hK.out | assumption | refine KB _ ?_ _ | refine KD _ ?_))) hone1.out (by unfold maxLen; omega) (by omega) ?_; intro v1 w4 own1 grow1; have hk1 : Below w3.heap.size w3 w4 := Below.grown (by repeat (first | exact hK.out | assumption | refine KB _ ?_ _ | refine KD _ ?_)) grow1 (by first | exact Nat.le_refl _ | (simp; try omega)) (by intro q hq; simp [Value.ownBlock] at hq; omega))
        | (refine step_append_own rfl (.tmp 44) (.tmp 47) 30 rfl w3.heap.size 24 i0 _ 2 40 Try.underlying30 hi0 hz0 hz1 hz2 rfl (by omega) (.slice (some ⟨w3.heap.size, 0, none⟩) 0 0) 0 [] rfl M2.out (by simp; try omega) _ _ _ (([] : List Value).take (0 * 2)) rfl hlt hN48.out (TK.out _ (by repeat (first | exact hK.out | assumption | refine KB _ ?_ _ | refine KD _ ?_))) hone1.out (by unfold maxLen; omega) (by omega) ?_; intro v1 w4 own1 grow1; have hk1 : Below w3.heap.size w3 w4 := Below.grown (by repeat (first | exact hK.out | assumption | refine KB _ ?_ _ | refine KD _ ?_)) grow1 (by first | exact Nat.le_refl _ | (simp; try omega)) (by intro q hq; simp [Value.ownBlock] at hq; omega); have X0 := (grow1.cell HX2.out.1 (by simp [Value.ownBlock])); have X1 := (grow1.cell HX2.out.2 (by simp [Value.ownBlock])))
        | (refine step_append_own rfl (.tmp 44) (.tmp 47) 30 rfl w3.heap.size 24 i0 _ 2 40 Try.underlying30 hi0 hz0 hz1 hz2 rfl (by omega) (.slice (some ⟨w3.heap.size + 1, 0, none⟩) 0 0) 0 [] rfl M3.out (by simp; try omega) _ _ _ (([] : List Value).take (0 * 2)) rfl hlt hN48.out (TK.out _ (by repeat (first | exact hK.out | assumption | refine KB _ ?_ _ | refine KD _ ?_))) hone1.out (by unfold maxLen; omega) (by omega) ?_; intro v1 w4 own1 grow1; have hk1 : Below w3.heap.size w3 w4 := Below.grown (by repeat (first | exact hK.out | assumption | refine KB _ ?_ _ | refine KD _ ?_)) grow1 (by first | exact Nat.le_refl _ | (simp; try omega)) (by intro q hq; simp [Value.ownBlock] at hq; omega); have X0 := (grow1.cell HX3.out.1 (by simp [Value.ownBlock])); have X1 := (grow1.cell HX3.out.2 (by simp [Value.ownBlock])))
        | (refine step_append_own rfl (.tmp 48) (.tmp 50) 30 rfl w3.heap.size 24 i0 _ 2 40 Try.underlying30 hi0 hz0 hz1 hz2 rfl (by omega) v1 (0 + 0) ([] ++ ([] : List Value).take (0 * 2)) rfl (own1.alloc _) (Below.size (KB _ hk1 _)) (some ⟨w4.heap.size, 0, none⟩) 1 1 [.string ⟨t.toArray⟩, .slice xo E.length xc] rfl rfl (fun h => by cases h) (fun ad had => by cases had; exact two_new w4 _ _ _) hone2.out (by unfold maxLen; omega) (by omega) ?_; intro v2 w5 own2 grow2; have hk2 : Below w3.heap.size w3 w5 := Below.grown (KB _ hk1 _) grow2 (Below.size (KB _ hk1 _)) (fun q hq => (own1.lt q hq).1))
        | (refine step_append_own rfl (.tmp 48) (.tmp 50) 30 rfl w3.heap.size 24 i0 _ 2 40 Try.underlying30 hi0 hz0 hz1 hz2 rfl (by omega) v1 (0 + 0) ([] ++ ([] : List Value).take (0 * 2)) rfl own1 (Below.size hk1) (some ⟨w3.heap.size + 1, 0, none⟩) 1 1 [.string ⟨t.toArray⟩, .slice xo E.length xc] rfl rfl (fun h => by cases h) (raw_news X0 X1) hone2.out (by unfold maxLen; omega) (by omega) ?_; intro v2 w5 own2 grow2; have hk2 : Below w3.heap.size w3 w5 := Below.grown hk1 grow2 (Below.size hk1) (fun q hq => (own1.lt q hq).1))
        | (refine step_append_own rfl (.tmp 48) (.tmp 50) 30 rfl w3.heap.size 24 i0 _ 2 40 Try.underlying30 hi0 hz0 hz1 hz2 rfl (by omega) v1 (0 + 0) ([] ++ ([] : List Value).take (0 * 2)) rfl own1 (Below.size hk1) (some ⟨w3.heap.size, 0, none⟩) 1 1 [.string ⟨t.toArray⟩, .slice xo E.length xc] rfl rfl (fun h => by cases h) (raw_news X0 X1) hone2.out (by unfold maxLen; omega) (by omega) ?_; intro v2 w5 own2 grow2; have hk2 : Below w3.heap.size w3 w5 := Below.grown hk1 grow2 (Below.size hk1) (fun q hq => (own1.lt q hq).1))
        | (refine step_append_own rfl (.tmp 51) (.tmp 54) 30 rfl w3.heap.size 24 i0 _ 2 40 Try.underlying30 hi0 hz0 hz1 hz2 rfl (by omega) v2 (0 + 0 + 1) ([] ++ ([] : List Value).take (0 * 2) ++ [.string ⟨t.toArray⟩, .slice xo E.length xc]) rfl own2 (Below.size hk2) _ _ _ (([] : List Value).drop (0 * 2)) rfl hlt2 hN55.out (DK.out _ hk2) hone3.out (by unfold maxLen; omega) (by omega) ?_; intro v3 w6 own3 grow3; have hk3 : Below w3.heap.size w3 w6 := Below.grown hk2 grow3 (Below.size hk2) (fun q hq => (own2.lt q hq).1)))
    all_goals
      have hseg : SegsIn (Has_ w6) w6 v3 (([] : List Seg).take 0 ++ [(⟨t, E⟩ : Seg)] ++ ([] : List Seg).drop 0) := (((hcs.out.take 0 hkl).append (SegCells.single (s := ⟨t, E⟩) hX3.out ht)).append (hcs.out.drop 0 hkl)).later hk3 |>.segs (by simpa [strV] using own3)
      have hS6 := Lib.hid hseg
      have hL6 := Lib.hid (below_next hL3.out hk3)
      have hl2 : (([] : List Seg).take 0 ++ [(⟨t, E⟩ : Seg)] ++ ([] : List Seg).drop 0).length ≤ 13 := by first | (simp; done) | (simp; omega)
      clear hseg own1 own2 own3 grow1 grow2 grow3 hk1 hk2 hk3 M1 M2 M3 HX2 HX3 TK DK hcs hone1 hone2 hone3 KB KD hK
      generalize ([] : List Seg).take 0 ++ [(⟨t, E⟩ : Seg)] ++ ([] : List Seg).drop 0 = L2 at *
      go_wp2_with fail
      refine (HE.out _ L2 _ hS6.out (by omega)).mono ?_
      rintro e w7 ⟨u7, rfl, hu, hb⟩
      have hU7 := Lib.hid hu
      have hS7 := Lib.hid (hS6.out.later hb)
      have hL7 := Lib.hid (below_next hL6.out hb)
      clear hu hb hS6 hL6
      go_wp2_with fail
      refine (HR.out _ L2 _ hS7.out (by omega)).mono ?_
      rintro e w8 ⟨u8, rfl, hu, hb⟩
      have hcu2 := (hU7.out.later hb).text
      have hcv2 := hu.bytes.text
      have hL8 := Lib.hid (below_next hL7.out hb)
      clear hu hb hU7 hS7 hL7
      generalize encF [] L2 = R at *
      obtain ⟨rb, re⟩ := R
      dsimp only at *
      go_wp2_with fail
      refine (HA.out _).mono ?_
      rintro e w9 ⟨rfl, hb⟩
      go_wp2_with fail
      go_ret
      exact ⟨rfl, below_next hL8.out hb⟩
  · subst hso
    have TK := Lib.hid (fun W (hW : Below w3.heap.size w3 W) => TK0.out W hW)
    have DK := Lib.hid (show ∀ W, Below w3.heap.size w3 W → ∀ ad, (if sc = k then some a else some (a.add (k * 2))) = some ad → ∀ j x, (us.drop (k * 2))[j]? = some x → W.cell? (ad.add j) = some x from fun W hW ad had j x hx => by
      by_cases hsk : sc = k
      · have := (List.getElem?_eq_some_iff.1 hx).1
        omega
      · rw [if_neg hsk] at had
        exact cellAt hW (cells_drop hcu k ad had j x hx))
    have hN48 : Hid (some a = none → k = 0 ∧ sc = 0) := Lib.hid (fun h => by cases h)
    have hN55 : Hid ((if sc = k then some a else some (a.add (k * 2))) = none → L.length - k = 0 ∧ sc - k = 0) := Lib.hid (fun h => by split at h <;> cases h)
    clear TK0 hcu
    go_region_held3 (fun w' => w'.cell? ⟨P, 0, none⟩ = some (.string ⟨t.toArray⟩) ∧ w'.cell? ⟨P, 1, none⟩ = some (.slice xo E.length xc) ∧ Below w3.heap.size w3 w')
      (refine (fun h => ⟨cellAt h p0, cellAt h p1, h⟩) ?_ <;> repeat (first | exact hK.out | assumption | refine KB _ ?_ _ | refine KD _ ?_))
      (first
        | (refine step_append_own rfl (.tmp 44) (.tmp 47) 30 rfl w3.heap.size 24 i0 _ 2 40 Try.underlying30 hi0 hz0 hz1 hz2 rfl (by omega) (.slice (some ⟨w3.heap.size, 0, none⟩) 0 0) 0 [] rfl M1.out (by simp; try omega) _ _ _ (us.take (k * 2)) rfl hlt hN48.out (TK.out _ (by repeat (first | exact hK.out | assumption | refine KB _ ?_ _ | refine KD _ ?_))) hone1.out (by unfold maxLen; omega) (by omega) ?_; intro v1 w4 own1 grow1; have hk1 : Below w3.heap.size w3 w4 := Below.grown (by repeat (first | exact hK.out | assumption | refine KB _ ?_ _ | refine KD _ ?_)) grow1 (by first | exact Nat.le_refl _ | (simp; try omega)) (by intro q hq; simp [Value.ownBlock] at hq; omega))
        | (refine step_append_own rfl (.tmp 44) (.tmp 47) 30 rfl w3.heap.size 24 i0 _ 2 40 Try.underlying30 hi0 hz0 hz1 hz2 rfl (by omega) (.slice (some ⟨w3.heap.size, 0, none⟩) 0 0) 0 [] rfl M2.out (by simp; try omega) _ _ _ (us.take (k * 2)) rfl hlt hN48.out (TK.out _ (by repeat (first | exact hK.out | assumption | refine KB _ ?_ _ | refine KD _ ?_))) hone1.out (by unfold maxLen; omega) (by omega) ?_; intro v1 w4 own1 grow1; have hk1 : Below w3.heap.size w3 w4 := Below.grown (by repeat (first | exact hK.out | assumption | refine KB _ ?_ _ | refine KD _ ?_)) grow1 (by first | exact Nat.le_refl _ | (simp; try omega)) (by intro q hq; simp [Value.ownBlock] at hq; omega); have X0 := (grow1.cell HX2.out.1 (by simp [Value.ownBlock])); have X1 := (grow1.cell HX2.out.2 (by simp [Value.ownBlock])))
        | (refine step_append_own rfl (.tmp 44) (.tmp 47) 30 rfl w3.heap.size 24 i0 _ 2 40 Try.underlying30 hi0 hz0 hz1 hz2 rfl (by omega) (.slice (some ⟨w3.heap.size + 1, 0, none⟩) 0 0) 0 [] rfl M3.out (by simp; try omega) _ _ _ (us.take (k * 2)) rfl hlt hN48.out (TK.out _ (by repeat (first | exact hK.out | assumption | refine KB _ ?_ _ | refine KD _ ?_))) hone1.out (by unfold maxLen; omega) (by omega) ?_; intro v1 w4 own1 grow1; have hk1 : Below w3.heap.size w3 w4 := Below.grown (by repeat (first | exact hK.out | assumption | refine KB _ ?_ _ | refine KD _ ?_)) grow1 (by first | exact Nat.le_refl _ | (simp; try omega)) (by intro q hq; simp [Value.ownBlock] at hq; omega); have X0 := (grow1.cell HX3.out.1 (by simp [Value.ownBlock])); have X1 := (grow1.cell HX3.out.2 (by simp [Value.ownBlock])))
        | (refine step_append_own rfl (.tmp 48) (.tmp 50) 30 rfl w3.heap.size 24 i0 _ 2 40 Try.underlying30 hi0 hz0 hz1 hz2 rfl (by omega) v1 (0 + k) ([] ++ us.take (k * 2)) rfl (own1.alloc _) (Below.size (KB _ hk1 _)) (some ⟨w4.heap.size, 0, none⟩) 1 1 [.string ⟨t.toArray⟩, .slice xo E.length xc] rfl rfl (fun h => by cases h) (fun ad had => by cases had; exact two_new w4 _ _ _) hone2.out (by unfold maxLen; omega) (by omega) ?_; intro v2 w5 own2 grow2; have hk2 : Below w3.heap.size w3 w5 := Below.grown (KB _ hk1 _) grow2 (Below.size (KB _ hk1 _)) (fun q hq => (own1.lt q hq).1))
        | (refine step_append_own rfl (.tmp 48) (.tmp 50) 30 rfl w3.heap.size 24 i0 _ 2 40 Try.underlying30 hi0 hz0 hz1 hz2 rfl (by omega) v1 (0 + k) ([] ++ us.take (k * 2)) rfl own1 (Below.size hk1) (some ⟨w3.heap.size + 1, 0, none⟩) 1 1 [.string ⟨t.toArray⟩, .slice xo E.length xc] rfl rfl (fun h => by cases h) (raw_news X0 X1) hone2.out (by unfold maxLen; omega) (by omega) ?_; intro v2 w5 own2 grow2; have hk2 : Below w3.heap.size w3 w5 := Below.grown hk1 grow2 (Below.size hk1) (fun q hq => (own1.lt q hq).1))
        | (refine step_append_own rfl (.tmp 48) (.tmp 50) 30 rfl w3.heap.size 24 i0 _ 2 40 Try.underlying30 hi0 hz0 hz1 hz2 rfl (by omega) v1 (0 + k) ([] ++ us.take (k * 2)) rfl own1 (Below.size hk1) (some ⟨w3.heap.size, 0, none⟩) 1 1 [.string ⟨t.toArray⟩, .slice xo E.length xc] rfl rfl (fun h => by cases h) (raw_news X0 X1) hone2.out (by unfold maxLen; omega) (by omega) ?_; intro v2 w5 own2 grow2; have hk2 : Below w3.heap.size w3 w5 := Below.grown hk1 grow2 (Below.size hk1) (fun q hq => (own1.lt q hq).1))
        | (refine step_append_own rfl (.tmp 51) (.tmp 54) 30 rfl w3.heap.size 24 i0 _ 2 40 Try.underlying30 hi0 hz0 hz1 hz2 rfl (by omega) v2 (0 + k + 1) ([] ++ us.take (k * 2) ++ [.string ⟨t.toArray⟩, .slice xo E.length xc]) rfl own2 (Below.size hk2) _ _ _ (us.drop (k * 2)) rfl hlt2 hN55.out (DK.out _ hk2) hone3.out (by unfold maxLen; omega) (by omega) ?_; intro v3 w6 own3 grow3; have hk3 : Below w3.heap.size w3 w6 := Below.grown hk2 grow3 (Below.size hk2) (fun q hq => (own2.lt q hq).1)))
    all_goals
      have hseg : SegsIn (Has_ w6) w6 v3 (L.take k ++ [(⟨t, E⟩ : Seg)] ++ L.drop k) := (((hcs.out.take k hkl).append (SegCells.single (s := ⟨t, E⟩) hX3.out ht)).append (hcs.out.drop k hkl)).later hk3 |>.segs (by simpa [strV] using own3)
      have hS6 := Lib.hid hseg
      have hL6 := Lib.hid (below_next hL3.out hk3)
      have hl2 : (L.take k ++ [(⟨t, E⟩ : Seg)] ++ L.drop k).length ≤ 13 := by first | (simp; done) | (simp; omega)
      clear hseg own1 own2 own3 grow1 grow2 grow3 hk1 hk2 hk3 M1 M2 M3 HX2 HX3 TK DK hcs hone1 hone2 hone3 KB KD hK
      generalize L.take k ++ [(⟨t, E⟩ : Seg)] ++ L.drop k = L2 at *
      generalize (if sc = k then (some a : Option Addr) else some (a.add (k * 2))) = qs at *
      go_wp2_with fail
      refine (HE.out _ L2 _ hS6.out (by omega)).mono ?_
      rintro e w7 ⟨u7, rfl, hu, hb⟩
      have hU7 := Lib.hid hu
      have hS7 := Lib.hid (hS6.out.later hb)
      have hL7 := Lib.hid (below_next hL6.out hb)
      clear hu hb hS6 hL6
      go_wp2_with fail
      refine (HR.out _ L2 _ hS7.out (by omega)).mono ?_
      rintro e w8 ⟨u8, rfl, hu, hb⟩
      have hcu2 := (hU7.out.later hb).text
      have hcv2 := hu.bytes.text
      have hL8 := Lib.hid (below_next hL7.out hb)
      clear hu hb hU7 hS7 hL7
      generalize encF [] L2 = R at *
      obtain ⟨rb, re⟩ := R
      dsimp only at *
      go_wp2_with fail
      refine (HA.out _).mono ?_
      rintro e w9 ⟨rfl, hb⟩
      go_wp2_with fail
      go_ret
      exact ⟨rfl, below_next hL8.out hb⟩
end Go.Proofs.Ytenlfapdmknkjaa
