/- What Encode of the reference of layer 6 returns: the encodings of segments, or the error of the first that has one. Condition: the segments' cells are known, and there are not too many. -/
import Derived.Test.YtenlfapdmknkjaaSegMem
import Derived.Test.YtenlfapdmknkjaaSegVal
import Derived.Test.YtenlfapdmknkjaaSegText
import Derived.Deep.RegionHeld3
namespace Go.Proofs.Ytenlfapdmknkjaa
open Go.RowKit

/-- The encoding so far. -/
structure EncAt (w wx : World) (v u : Value) (L : List Seg) (l : List UInt8) : Prop where
  row : ByteRow wx w.heap.size 5 u l
  segs : SegsIn (Has_ w) wx v L
  below : Below w.heap.size w wx
theorem EncAt.keep {w wx w1 : World} {v u : Value} {L : List Seg} {l : List UInt8} (h : EncAt w wx v u L l) (hb : Below wx.heap.size wx w1) : EncAt w w1 v u L l :=
  ⟨h.row.keep hb, h.segs.keep fun _ hh => ⟨hh, hb.block _ (Nat.lt_of_lt_of_le hh h.below.size)⟩, h.below.trans (hb.mono h.below.size)⟩
theorem EncAt.grown {w wx w1 : World} {v u u1 : Value} {L : List Seg} {l l1 : List UInt8} (h : EncAt w wx v u L l) (hr : ByteRow w1 w.heap.size 5 u1 l1) (hg : wx.grownBy w1 u.ownBlock) : EncAt w w1 v u1 L l1 := by
  have hz := h.below.size
  have hbl : ∀ b, b < w.heap.size → w1.heap[b]? = wx.heap[b]? := fun b hb => hg.block b (by omega) (fun e => by
    have := (h.row.lt b e.symm).1
    omega)
  exact ⟨hr, h.segs.keep fun b hb => ⟨hb, hbl b hb⟩, hg.os.trans h.below.os, hg.tape.trans h.below.tape, hg.output.trans h.below.output, Nat.le_trans hz hg.size, fun b hb => (hbl b hb).trans (h.below.block b hb)⟩
/-- What a call on a segment of the list needs. -/
theorem EncAt.els {w wx : World} {v u : Value} {L : List Seg} {l : List UInt8} (h : EncAt w wx v u L l) {E : List (List (List UInt8))} {x : Value} (hE : ElemsIn (Has_ w) wx x E) : ElemsIn (Has_ wx) wx x E :=
  hE.keep fun _ hb => ⟨Nat.lt_of_lt_of_le hb h.below.size, rfl⟩

set_option maxRecDepth 100000 in
set_option maxHeartbeats 1600000 in
theorem refEncode_any (v : Value) (L : List Seg) (w : World) (h : SegsIn (Has_ w) w v L) (hn : L.length ≤ 100000) :
    Calls Try.prog 14 #[v] w fun e w' => ∃ u, e = .returned (.tuple #[u, .int .i64 (encF [] L).2]) ∧ ByteRow w' w.heap.size 5 u (encF [] L).1 ∧ Below w.heap.size w w' := by
  obtain ⟨i0, hi, hz0, hz1, hz2⟩ := info_parts info_byte
  obtain ⟨R, hR⟩ : ∃ R, R = encF [] L := ⟨_, rfl⟩
  have HR := Lib.hid (show encF [] (L.drop 0) = R from hR.symm)
  rw [← hR]
  clear hR
  obtain ⟨ao, cap, rfl, hLl, _⟩ := h.form
  have HS := Lib.hid h
  clear h
  go_enter Try.func14, Try.ntmps14
  go_wp2_with fail
  go_loopw [4, 5] (fun vb vi wx => ∃ (u : Value) (l : List UInt8) (i : Nat), u = vb ∧ vi = .int .i64 i ∧ i ≤ L.length ∧ l.length ≤ i * 30000000 ∧ Hid (encF l (L.drop i) = R) ∧ Hid (EncAt w wx (.slice ao L.length cap) u L l)) (fun _ vi _ => L.length - (intOf vi).toNat)
  case atStart => exact ⟨_, [], 0, rfl, by go_num, by omega, Nat.zero_le _, HR, Lib.hid ⟨ByteRow.nil _ _ _, HS.out, Below.refl _ _⟩⟩
  case round =>
    clear HR HS
    obtain ⟨u, l, i, rfl, rfl, hi', hll, hF, HA⟩ := hrel
    have hLb : L.length ≤ 9223372036854775807 := by omega
    by_cases hlt : i < L.length
    · obtain ⟨s, hs⟩ : ∃ s, L[i]? = some s := ⟨_, List.getElem?_eq_getElem hlt⟩
      obtain ⟨ao2, cap2, hv2, _, hsa⟩ := HA.out.segs.form
      cases hv2
      obtain ⟨a, x, rfl, hc0, hc1, hx, hst⟩ := hsa i s hs
      have d1 : decide ((i : Int) < (L.length : Int)) = true := decide_eq_true (by omega)
      have HV := Lib.hid (refSegment_any s.tag hst x s.els wr (HA.out.els hx))
      have hEF := (encF_step l hs).symm.trans hF.out
      clear hF hsa
      by_cases hE : segE s = 0
      · rw [if_pos hE] at hEF
        have hFn := Lib.hid hEF
        have hlen := encS_len hE
        have htl : s.tag.length ≤ 1000 := by
          obtain ⟨b1, b2, b3, ht, _⟩ := tag_shape (seg_ok hE).1
          rw [ht]
          show 3 ≤ 1000
          omega
        rw [show segE ⟨s.tag, s.els⟩ = 0 from hE] at HV
        clear hEF
        go_wp2_with fail
        refine HV.out.mono ?_
        rintro e w1 ⟨rfl, hb1⟩
        have HA1 := Lib.hid (HA.out.keep hb1)
        clear HV HA hb1 hc0 hc1 hx
        obtain ⟨ao2, cap2, hv2, _, hsa⟩ := HA1.out.segs.form
        cases hv2
        obtain ⟨a, x, ha, hc0, hc1, hx, _⟩ := hsa i s hs
        cases ha
        have HT := Lib.hid (refText_any s.tag htl x s.els w1 (HA1.out.els hx) (by show (encS s).length ≤ _; omega))
        clear hsa hx
        go_wp2_with fail
        refine HT.out.mono ?_
        rintro e w2 ⟨rfl, hb2⟩
        have HA2 := Lib.hid (HA1.out.keep hb2)
        have hm : l.length + (encS s).length ≤ 100000000000000 := by omega
        clear HT HA1 hb2 hc0 hc1
        go_wp2_with (at_builtin; refine wpList_append_text rfl _ _ 32 9 rfl w.heap.size 5 i0 Try.underlying32 Try.underlying9 hi hz0 hz1 hz2 _ l rfl HA2.out.row (encS s) rfl hm HA2.out.below.size ?_)
        intro vb3 w3 hr3 hg3
        have HA3 := Lib.hid (HA2.out.grown hr3 hg3)
        have hll3 : (l ++ encS s).length ≤ (i + 1) * 30000000 := by rw [List.length_append]; omega
        clear HA2 hr3 hg3
        go_wp2_with fail
        go_roundw
        case rel => exact ⟨_, _, i + 1, rfl, by go_num, by omega, hll3, hFn, HA3⟩
        case measure => simp [intOf]; omega
      · rw [if_neg hE] at hEF
        have hR : R = ([], segE s) := hEF.symm
        have d2 : (segE ⟨s.tag, s.els⟩ != 0) = true := by rw [bne_iff_ne]; exact hE
        have e0 : segE s = segE ⟨s.tag, s.els⟩ := rfl
        rw [e0] at hR
        clear hEF hE e0 hst
        generalize segE ⟨s.tag, s.els⟩ = F at *
        subst hR
        go_wp2_with fail
        refine HV.out.mono ?_
        rintro e w1 ⟨rfl, hb1⟩
        go_wp2_with fail
        go_ret2
        exact ⟨_, rfl, ByteRow.nil _ _ _, HA.out.below.trans (hb1.mono HA.out.below.size)⟩
    · obtain rfl : i = L.length := by omega
      have hEF := hF.out
      rw [List.drop_length] at hEF
      have hR : R = (l, 0) := hEF.symm
      clear hF hEF
      subst hR
      go_wp2_with fail
      go_ret2
      exact ⟨_, rfl, HA.out.row, HA.out.below⟩
end Go.Proofs.Ytenlfapdmknkjaa
