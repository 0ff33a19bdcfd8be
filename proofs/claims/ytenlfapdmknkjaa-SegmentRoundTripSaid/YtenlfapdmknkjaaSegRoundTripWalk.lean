/- The walk through SegmentRoundTrip. Condition: the list's cells are known. -/
import Derived.Test.YtenlfapdmknkjaaSegUse2
import Derived.Test.YtenlfapdmknkjaaSegMade2
import Derived.Deep.RegionHeld3
namespace Go.Proofs.Ytenlfapdmknkjaa
open Go.RowKit

/-- What the last statement keeps. -/
theorem rt_drew {w w1 : World} {P : Nat} {t x v : Value} {E : List (List (List UInt8))} {L : List Seg} (h : w1.cell? ⟨P, 0, none⟩ = some t ∧ w1.cell? ⟨P, 1, none⟩ = some x ∧ ElemsIn (Has_ w1) w1 x E ∧ SegsIn (Has_ w1) w1 v L ∧ Below w.heap.size w w1) :
    w1.drew.cell? ⟨P, 0, none⟩ = some t ∧ w1.drew.cell? ⟨P, 1, none⟩ = some x ∧ ElemsIn (Has_ w1.drew) w1.drew x E ∧ SegsIn (Has_ w1.drew) w1.drew v L ∧ Below w.heap.size w w1.drew :=
  ⟨h.1, h.2.1, h.2.2.1.later ((Below.refl _ _).drew), h.2.2.2.1.later ((Below.refl _ _).drew), h.2.2.2.2.drew⟩
theorem rt_call {w w1 w2 : World} {P : Nat} {t x v : Value} {E : List (List (List UInt8))} {L : List Seg} (hb : Below w1.heap.size w1 w2) (h : w1.cell? ⟨P, 0, none⟩ = some t ∧ w1.cell? ⟨P, 1, none⟩ = some x ∧ ElemsIn (Has_ w1) w1 x E ∧ SegsIn (Has_ w1) w1 v L ∧ Below w.heap.size w w1) :
    w2.cell? ⟨P, 0, none⟩ = some t ∧ w2.cell? ⟨P, 1, none⟩ = some x ∧ ElemsIn (Has_ w2) w2 x E ∧ SegsIn (Has_ w2) w2 v L ∧ Below w.heap.size w w2 :=
  ⟨cellAt hb h.1, cellAt hb h.2.1, h.2.2.1.later hb, h.2.2.2.1.later hb, below_next h.2.2.2.2 hb⟩
theorem rt_segs {w w1 : World} {P : Nat} {t x v : Value} {E : List (List (List UInt8))} {L : List Seg} (h : w1.cell? ⟨P, 0, none⟩ = some t ∧ w1.cell? ⟨P, 1, none⟩ = some x ∧ ElemsIn (Has_ w1) w1 x E ∧ SegsIn (Has_ w1) w1 v L ∧ Below w.heap.size w w1) : SegsIn (Has_ w1) w1 v L := h.2.2.2.1
theorem rt_one {w w1 : World} {P : Nat} {tag : List UInt8} {x v : Value} {E : List (List (List UInt8))} {L : List Seg} (h : w1.cell? ⟨P, 0, none⟩ = some (.string ⟨tag.toArray⟩) ∧ w1.cell? ⟨P, 1, none⟩ = some x ∧ ElemsIn (Has_ w1) w1 x E ∧ SegsIn (Has_ w1) w1 v L ∧ Below w.heap.size w w1) (ht : tag.length ≤ maxLen) :
    SegsIn (Has_ (w1.drew.alloc (.cells #[.string ⟨tag.toArray⟩, x] 24))) (w1.drew.alloc (.cells #[.string ⟨tag.toArray⟩, x] 24)) (.slice (some ⟨w1.heap.size, 0, none⟩) 1 1) [⟨tag, E⟩] :=
  one_laid (w := w1.drew) (s := ⟨tag, E⟩) (h.2.2.1.later ((Below.refl _ _).drew)) ht

set_option maxRecDepth 100000 in
set_option maxHeartbeats 3200000 in
theorem segmentRoundTrip_walk (v : Value) (n : Nat) (f : Nat → Int) (w : World) (h : ListAt w .i64 v n f) :
    Calls Try.prog 5 #[v] w fun e w' => e = .returned (.bool true) ∧ Below w.heap.size w w' := by
  have HM := Lib.hid (madeSegments_any v n f w h)
  have HD := Lib.hid (fun v b w h hb => segDecode_any v b w h hb)
  have HN := Lib.hid (fun v b w h hb => segNext_any v b w h hb)
  have HE := Lib.hid (fun v L w h hn => segEncode_any v L w h hn)
  have HS := Lib.hid (fun v1 v2 L w h1 h2 => refSame_any v1 v2 L w h1 h2)
  have HA := Lib.hid (fun w => awake6_any w)
  clear h
  go_enter Try.func5, Try.ntmps5
  go_wp2_with fail
  refine HM.out.mono ?_
  rintro e w1 ⟨vs, L, rfl, hL12, hval, hV, hb1⟩
  obtain ⟨e1, e2⟩ := encode_dec hval
  have hsm := flat_small hval (by omega)
  have hn0 : Hid (L = [] → nextF (L.flatMap encS) = (noSeg, 0, 5)) := Lib.hid (fun h => by rw [h]; rfl)
  have hn1 : Hid (∀ S L', L = S :: L' → nextF (L.flatMap encS) = (S, (encS S).length, 0)) := Lib.hid (fun S L' h => by
    have := next_enc (hval S (by rw [h]; exact List.mem_cons_self ..)) (L'.flatMap encS)
    rw [h, List.flatMap_cons]
    exact this)
  generalize L.flatMap encS = fl at *
  obtain ⟨so, sc, rfl, hs1, hs2⟩ := hV.slice
  have hV1 := Lib.hid hV
  clear HM hV
  go_wp2_with fail
  have HE1 := HE.out _ L _ hV1.out (by omega)
  rw [e1] at HE1
  refine HE1.mono ?_
  rintro e w2 ⟨u, rfl, hu, hb⟩
  obtain ⟨uo, uc, rfl, _⟩ := hu.slice
  have hU2 := Lib.hid hu
  have hV2 := Lib.hid (hV1.out.later hb)
  have hL2 := Lib.hid (below_next hb1 hb)
  clear HE1 hu hb hb1 hV1 e1
  dsimp only at *
  go_wp2_with fail
  have HD1 := HD.out _ _ _ hU2.out (by omega)
  rw [e2] at HD1
  refine HD1.mono ?_
  rintro e w3 ⟨d, rfl, hd, hb⟩
  have hU3 := Lib.hid (hU2.out.later hb)
  have hV3 := Lib.hid (hV2.out.later hb)
  have hL3 := Lib.hid (below_next hL2.out hb)
  have hD3 := Lib.hid hd
  clear HD1 hd hb hU2 hV2 hL2 e2 HD
  dsimp only at *
  go_wp2_with fail
  refine (HS.out _ _ L _ hD3.out hV3.out).mono ?_
  rintro e w4 ⟨rfl, hm⟩
  have hb := same_below hm
  have hU4 := Lib.hid (hU3.out.later hb)
  have hV4 := Lib.hid (hV3.out.later hb)
  have hL4 := Lib.hid (below_next hL3.out hb)
  clear hD3 hU3 hV3 hL3 hb hm
  go_wp2_with fail
  cases L with
  | nil =>
    have HN1 := HN.out _ _ _ hU4.out (by omega)
    rw [hn0.out rfl] at HN1
    refine HN1.mono ?_
    rintro e w5 ⟨y, rfl, hy, hb⟩
    obtain ⟨yo, yc, rfl⟩ := hy.slice
    have hL5 := Lib.hid (below_next (below_next hL4.out hb) (below_alloc w5 (.cells #[.string ⟨noSeg.tag.toArray⟩, .slice yo noSeg.els.length yc] 24)))
    clear HN1 hy hb hL4 hU4 hV4 HN HE HS
    unfold strV
    dsimp only at *
    go_wp2_with fail
    refine (HA.out _).mono ?_
    rintro e w6 ⟨rfl, hb⟩
    go_wp2_with fail
    go_ret
    exact ⟨rfl, below_next hL5.out hb⟩
  | cons S L =>
    have hS0 := hval S (List.mem_cons_self ..)
    have hnx := hn1.out S L rfl
    have htl := tag_len hS0
    have hone : encF [] [S] = (encS S, 0) := by
      rw [encF_ok [S] [] (fun s hs => by rw [List.mem_singleton.1 hs]; exact hS0)]
      simp
    have hLl : 0 < (S :: L).length := by simp
    have HN1 := HN.out _ _ _ hU4.out (by omega)
    rw [hnx] at HN1
    clear hnx hval hS0
    refine HN1.mono ?_
    rintro e w5 ⟨y, rfl, hy, hb⟩
    obtain ⟨yo, yc, rfl⟩ := hy.slice
    unfold strV
    have hb5 := below_next hb (below_alloc w5 (.cells #[.string ⟨S.tag.toArray⟩, .slice yo S.els.length yc] 24))
    have hV5 := Lib.hid (hV4.out.later hb5)
    have hY5 := Lib.hid (hy.later (below_alloc w5 (.cells #[.string ⟨S.tag.toArray⟩, .slice yo S.els.length yc] 24)))
    have hL5 := Lib.hid (below_next hL4.out hb5)
    obtain ⟨p0, p1⟩ := var_laid w5 S.tag (.slice yo S.els.length yc)
    have hT5 := Lib.hid (hV5.out.take 1 hLl)
    have hne : (((S :: L).length : Int) == 0) = false := by rw [beq_eq_false_iff_ne]; omega
    have d3 : (1 : Int) ≤ (sc : Int) := by omega
    clear HN1 hy hb hb5 hL4 hU4 hV4 HN
    generalize hll : (S :: L).length = ll at *
    generalize encS S = eb at *
    dsimp only at *
    have hnl : (((ll : Nat) : Int) == 0) = false := hne
    go_wp2_with fail
    have HE1 := HE.out _ [S] _ hT5.out (show 1 ≤ 100000 by omega)
    rw [hone] at HE1
    refine HE1.mono ?_
    rintro e w6 ⟨u2, rfl, hu2, hb⟩
    obtain ⟨uo2, uc2, rfl, _⟩ := hu2.slice
    have hS0 := (⟨cellAt hb p0, cellAt hb p1, hY5.out.later hb, hT5.out.later hb, below_next hL5.out hb⟩ : w6.cell? ⟨w5.heap.size, 0, none⟩ = some (.string ⟨S.tag.toArray⟩) ∧ w6.cell? ⟨w5.heap.size, 1, none⟩ = some (.slice yo S.els.length yc) ∧ ElemsIn (Has_ w6) w6 (.slice yo S.els.length yc) S.els ∧ SegsIn (Has_ w6) w6 (.slice so 1 sc) [S] ∧ Below w.heap.size w w6)
    clear HE1 hu2 hb hV5 hY5 hL5 hT5 p0 p1 HE hone
    dsimp only at *
    generalize w5.heap.size = P5 at *
    obtain ⟨tag, els⟩ := S
    dsimp only at *
    go_wp2_with fail
    go_region_held3 (fun w' => w'.cell? ⟨P5, 0, none⟩ = some (.string ⟨tag.toArray⟩) ∧ w'.cell? ⟨P5, 1, none⟩ = some (.slice yo els.length yc) ∧ ElemsIn (Has_ w') w' (.slice yo els.length yc) els ∧ SegsIn (Has_ w') w' (.slice so 1 sc) [⟨tag, els⟩] ∧ Below w.heap.size w w')
      (first
        | assumption
        | exact rt_drew (by assumption)
        | exact rt_call (below_alloc _ _) (rt_drew (by assumption))
        | exact rt_call (same_below (by assumption)) (by assumption)
        | exact rt_call (by assumption) (by assumption))
      (first
        | (go_at_call 17; refine (HS.out _ _ _ _ (rt_one hS0 htl) ?_).mono ?_; exact rt_segs (by assumption); rintro e w' ⟨rfl, hbk⟩)
        | (go_at_call 11; refine (HA.out _).mono ?_; rintro e w' ⟨rfl, hbk⟩))
    all_goals
      rename_i hh
      have hL := hh.2.2.2.2
      go_wp2_with fail
      go_ret
      exact ⟨rfl, hL⟩
end Go.Proofs.Ytenlfapdmknkjaa
