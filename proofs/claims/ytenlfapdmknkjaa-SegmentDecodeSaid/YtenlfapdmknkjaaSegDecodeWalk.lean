/- The walk through SegmentDecode. Condition: the bytes' cells are known. -/
import Derived.Test.YtenlfapdmknkjaaSegUse2
namespace Go.Proofs.Ytenlfapdmknkjaa
open Go.RowKit

set_option maxRecDepth 100000 in
set_option maxHeartbeats 3200000 in
theorem segmentDecode_walk (v : Value) (b : List UInt8) (w : World) (h : BytesIn (Has_ w) w v b) :
    Calls Try.prog 6 #[v] w fun e w' => e = .returned (.bool true) ∧ Below w.heap.size w w' := by
  have HD := Lib.hid (fun v b w h hb => segDecode_any v b w h hb)
  have HDr := Lib.hid (fun v b w h hb => refDecode_any v b w h hb)
  have HN := Lib.hid (fun v b w h hb => segNext_any v b w h hb)
  have HNr := Lib.hid (fun v b w h hb => refNext_any v b w h hb)
  have HE := Lib.hid (fun v L w h hn => segEncode_any v L w h hn)
  have HS := Lib.hid (fun v1 v2 L w h1 h2 => refSame_any v1 v2 L w h1 h2)
  have HA := Lib.hid (fun w => awake6_any w)
  obtain ⟨ao, cap, rfl, hc1, hc2⟩ := h.slice
  by_cases hlen : 2000 < b.length
  obtain ⟨a, rfl⟩ : ∃ a, ao = some a := by
    obtain ⟨_, ⟨_, h1⟩ | ⟨a2, cap2, h2, _⟩⟩ := h
    · omega
    · injection h2 with e1
      exact ⟨a2, e1⟩
  obtain ⟨B, hB, hl2⟩ : ∃ B : List UInt8, Hid (BytesIn (Has_ w) w (.slice (some a) 2000 cap) B) ∧ B.length ≤ 2000 := ⟨b.take 2000, Lib.hid (h.take (n := 2000) (by omega)), by rw [List.length_take]; omega⟩
  have d1 : decide ((2000 : Int) < (b.length : Int)) = true := decide_eq_true (by omega)
  have d2 : (2000 : Int) ≤ (cap : Int) := by omega
  rotate_left
  obtain ⟨B, hB, hl2⟩ : ∃ B : List UInt8, Hid (BytesIn (Has_ w) w (.slice ao b.length cap) B) ∧ B.length ≤ 2000 := ⟨b, Lib.hid h, by omega⟩
  have d1 : decide ((2000 : Int) < (b.length : Int)) = false := decide_eq_false (by omega)
  all_goals
    clear h hlen
    have hdl := Nat.le_trans (decode_len B) hl2
    have hde := Lib.hid (fun h => decode_enc (b := B) h)
    have hnt := next_tag B
    have HD := Lib.hid (fun v w h => HD.out v B w h (by omega))
    have HDr := Lib.hid (fun v w h => HDr.out v B w h (by omega))
    have HN := Lib.hid (fun v w h => HN.out v B w h (by omega))
    have HNr := Lib.hid (fun v w h => HNr.out v B w h (by omega))
    generalize decodeF B = R at *
    obtain ⟨L, n, E⟩ := R
    generalize nextF B = N at *
    obtain ⟨S, m, F⟩ := N
    dsimp only at *
    go_enter Try.func6, Try.ntmps6
    go_wp2_with fail
    refine (HD.out _ _ hB.out).mono ?_
    rintro e w1 ⟨x1, rfl, hx1, hb1⟩
    have hB1 := Lib.hid (hB.out.later hb1)
    go_wp2_with fail
    refine (HDr.out _ _ hB1.out).mono ?_
    rintro e w2 ⟨x2, rfl, hx2, hb2⟩
    have hB2 := Lib.hid (hB1.out.later hb2)
    have hX1 := Lib.hid (hx1.later hb2)
    have hX2 := Lib.hid hx2
    have hL2 := Lib.hid (below_next hb1 hb2)
    clear hB hB1 hx1 hx2 hb1 hb2 HD HDr
    go_wp2_with fail
    refine (HS.out _ _ _ _ hX1.out hX2.out).mono ?_
    rintro e w3 ⟨rfl, hm⟩
    have hb := same_below hm
    have hB3 := Lib.hid (hB2.out.later hb)
    have hX3 := Lib.hid (hX1.out.later hb)
    have hL3 := Lib.hid (below_next hL2.out hb)
    clear hB2 hX1 hX2 hL2 hm hb
    go_wp2_with fail
    refine (HN.out _ _ hB3.out).mono ?_
    rintro e w4 ⟨y1, rfl, hy1, hb⟩
    obtain ⟨yo, yc, rfl⟩ := hy1.slice
    unfold strV
    have hb4 := below_next hb (below_alloc w4 (.cells #[.string ⟨S.tag.toArray⟩, .slice yo S.els.length yc] 24))
    have hB4 := Lib.hid (hB3.out.later hb4)
    have hX4 := Lib.hid (hX3.out.later hb4)
    have hY4 := Lib.hid (hy1.later (below_alloc w4 (.cells #[.string ⟨S.tag.toArray⟩, .slice yo S.els.length yc] 24)))
    have hL4 := Lib.hid (below_next hL3.out hb4)
    obtain ⟨p0, p1⟩ := var_laid w4 S.tag (.slice yo S.els.length yc)
    clear hB3 hX3 hL3 hb hb4 hy1
    go_wp2_with fail
    generalize w4.alloc (.cells #[.string ⟨S.tag.toArray⟩, .slice yo S.els.length yc] 24) = w5 at *
    generalize w4.heap.size = P4 at *
    refine (HNr.out _ _ hB4.out).mono ?_
    rintro e w6 ⟨y2, rfl, hy2, hb⟩
    obtain ⟨zo, zc, rfl⟩ := hy2.slice
    unfold strV
    have hb6 := below_next hb (below_alloc w6 (.cells #[.string ⟨S.tag.toArray⟩, .slice zo S.els.length zc] 24))
    have hB6 := Lib.hid (hB4.out.later hb6)
    have hX6 := Lib.hid (hX4.out.later hb6)
    have hY6 := Lib.hid (hY4.out.later hb6)
    have hZ6 := Lib.hid ((hy2.keep fun _ h => ⟨h.has, rfl⟩ : ElemsIn (Has_ w6) w6 _ S.els).later (below_alloc w6 (.cells #[.string ⟨S.tag.toArray⟩, .slice zo S.els.length zc] 24)))
    have hL6 := Lib.hid (below_next hL4.out hb6)
    have p0 := cellAt hb6 p0
    have p1 := cellAt hb6 p1
    obtain ⟨q0, q1⟩ := var_laid w6 S.tag (.slice zo S.els.length zc)
    clear hB4 hX4 hY4 hL4 hb hb6 hy2
    go_wp2_with fail
    have hz : (w6.alloc (.cells #[.string ⟨S.tag.toArray⟩, .slice zo S.els.length zc] 24)).heap.size = w6.heap.size + 1 := by simp
    have hP := pair_laid (s := S) hY6.out hZ6.out hnt _ rfl
    unfold strV at hP
    generalize w6.alloc (.cells #[.string ⟨S.tag.toArray⟩, .slice zo S.els.length zc] 24) = w7 at *
    rw [hz] at hP
    refine (HS.out _ _ _ _ hP.1 hP.2.1).mono ?_
    rintro e w8 ⟨rfl, hm⟩
    have hb := below_next (by rw [hz]; exact hP.2.2) (same_below hm)
    have hB8 := Lib.hid (hB6.out.later hb)
    have hX8 := Lib.hid (hX6.out.later hb)
    have hL8 := Lib.hid (below_next hL6.out hb)
    clear hB6 hX6 hY6 hZ6 hL6 hP hm hb p0 p1 q0 q1 hz
    go_wp2_with fail
    refine (HE.out _ L _ hX8.out (by omega)).mono ?_
    rintro e w9 ⟨u, rfl, hu, hb⟩
    have hcv := (hB8.out.later hb).text
    have hL9 := Lib.hid (below_next hL8.out hb)
    clear hB8 hX8 hL8 hb HE HS HN HNr
    by_cases hE : E = 0
    · subst hE
      rw [hde.out rfl] at hu ⊢
      have hcu := hu.text
      clear hde hu
      go_wp2_with fail
      refine (HA.out _).mono ?_
      rintro e w10 ⟨rfl, hb⟩
      go_wp2_with fail
      go_ret
      exact ⟨rfl, below_next hL9.out hb⟩
    · have hE2 : (E != 0) = true := by rw [bne_iff_ne]; exact hE
      clear hde hu hE
      go_wp2_with fail
      refine (HA.out _).mono ?_
      rintro e w10 ⟨rfl, hb⟩
      go_wp2_with fail
      go_ret
      exact ⟨rfl, below_next hL9.out hb⟩
end Go.Proofs.Ytenlfapdmknkjaa
