/- What the landed appendComponent, appendSegment and Encode of package segment return: the encodings of segments. Condition: the segments' cells are known, and there are not too many. -/
import Derived.Test.YtepkihoakagidaaDoorG3
import Derived.Test.YtepkihoakagidaaDoorG1
namespace Go.Proofs.YtepkihoakagidaaDoor
open Go.RowKit

/-- A row of bytes of the caller's, whose block lies at base or above; nothing below base has turned. -/
structure AppAt (base : Nat) (w wx : World) (vb : Value) (l : List UInt8) : Prop where
  row : ByteRow wx base 5 vb l
  below : Below base w wx
  hi : base ≤ wx.heap.size
theorem AppAt.grown {base : Nat} {w wx w1 : World} {vb vb1 : Value} {l l1 : List UInt8} (h : AppAt base w wx vb l) (hr : ByteRow w1 base 5 vb1 l1) (hg : wx.grownBy w1 vb.ownBlock) : AppAt base w w1 vb1 l1 :=
  ⟨hr, h.below.grown hg h.hi fun k hk => (h.row.lt k hk).1, Nat.le_trans h.hi hg.size⟩
theorem AppAt.alloc {base : Nat} {w wx : World} {vb : Value} {l : List UInt8} (h : AppAt base w wx vb l) (o : Obj) : AppAt base w (wx.alloc o) vb l :=
  ⟨h.row.keep ((Below.refl _ _).alloc (Nat.le_refl _) _), h.below.alloc h.hi o, Nat.le_trans h.hi (by simp)⟩
theorem AppAt.drew {base : Nat} {w wx : World} {vb : Value} {l : List UInt8} (h : AppAt base w wx vb l) : AppAt base w wx.drew vb l := ⟨h.row.keep (Below.refl _ _).drew, h.below.drew, h.hi⟩
theorem AppAt.then_ {base : Nat} {w wx w1 : World} {vb vb1 : Value} {l l1 : List UInt8} (h : AppAt base w wx vb l) (k : AppAt base wx w1 vb1 l1) : AppAt base w w1 vb1 l1 := ⟨k.row, h.below.trans k.below, k.hi⟩
/-- Two bytes, laid in a block of their own. -/
theorem two_news (W : World) (b c : UInt8) (x y : Int) (hx : x = (b.toNat : Int)) (hy : y = (c.toNat : Int)) (t : TypeId) : ∀ j u, ([b, c].map byteV)[j]? = some u → (W.alloc (.cells #[.int .u8 x, .int .u8 y] t)).cell? ((⟨W.heap.size, 0, none⟩ : Addr).add j) = some u := by
  intro j u hj
  match j with
  | 0 =>
    simp at hj
    rw [← hj, Addr.add_lit, hx]
    unfold byteV
    simp [go_sem]
  | 1 =>
    simp at hj
    rw [← hj, Addr.add_lit, hy]
    unfold byteV
    simp [go_sem]
  | j + 2 => simp at hj

set_option maxRecDepth 100000 in
set_option maxHeartbeats 1600000 in
theorem appComp_any (base : Nat) (v : Value) (l x : List UInt8) (w : World) (h : ByteRow w base 5 v l) (hb : base ≤ w.heap.size) (hx : x.length ≤ 1000) (hl : l.length + 2 * x.length ≤ 90000000000000) :
    Calls Tryd.prog 64 #[v, strV x] w fun e w' => ∃ u, e = .returned u ∧ AppAt base w w' u (l ++ esc x) := by
  unfold strV
  obtain ⟨i0, hi, hz0, hz1, hz2⟩ := info_parts info_byte
  have hA0 := Lib.hid (show AppAt base w w v l from ⟨h, Below.refl _ _, hb⟩)
  obtain ⟨T, hT⟩ : ∃ T, T = l ++ esc x := ⟨_, rfl⟩
  rw [← hT]
  have hF0 := Lib.hid (show T = l ++ esc (x.drop 0) from hT)
  have hTl : T.length ≤ 90000000000000 := by
    rw [hT, List.length_append]
    have := esc_len x
    omega
  clear hT h
  go_enter Tryd.func64, Tryd.ntmps64
  go_wp2_with fail
  go_loopw [0, 9] (fun vb vj wx => ∃ (u : Value) (l2 : List UInt8) (j : Nat), u = vb ∧ vj = .int .i64 j ∧ j ≤ x.length ∧ Hid (T = l2 ++ esc (x.drop j)) ∧ Hid (AppAt base w wx u l2)) (fun _ vj _ => x.length - (intOf vj).toNat)
  case atStart => exact ⟨_, l, 0, rfl, by go_num, by omega, hF0, hA0⟩
  case round =>
    clear hF0 hA0
    obtain ⟨u, l2, j, rfl, rfl, hj', hF, HA⟩ := hrel
    by_cases hjt : j < x.length
    · have hjs : j < (⟨x.toArray⟩ : ByteArray).size := by show j < x.toArray.size; simpa using hjt
      have hx2 : x[j]? = some (((⟨x.toArray⟩ : ByteArray)[j]'hjs)) := by
        rw [List.getElem?_eq_getElem hjt]
        rfl
      have hst := esc_step hx2
      have d1 : decide ((j : Int) < (x.length : Int)) = true := decide_eq_true (by omega)
      have hT2 : l2.length + 2 ≤ 100000000000000 := by
        have := congrArg List.length hF.out
        rw [List.length_append] at this
        omega
      have hl1 : l2.length + 1 ≤ 100000000000000 := by omega
      have h1 : ((((⟨x.toArray⟩ : ByteArray)[j]'hjs).toNat : Int) == 43) = (((⟨x.toArray⟩ : ByteArray)[j]'hjs) == 43) := byte_eq ((⟨x.toArray⟩ : ByteArray)[j]'hjs) 43 (by omega)
      have h2 : ((((⟨x.toArray⟩ : ByteArray)[j]'hjs).toNat : Int) == 58) = (((⟨x.toArray⟩ : ByteArray)[j]'hjs) == 58) := byte_eq ((⟨x.toArray⟩ : ByteArray)[j]'hjs) 58 (by omega)
      have h3 : ((((⟨x.toArray⟩ : ByteArray)[j]'hjs).toNat : Int) == 63) = (((⟨x.toArray⟩ : ByteArray)[j]'hjs) == 63) := byte_eq ((⟨x.toArray⟩ : ByteArray)[j]'hjs) 63 (by omega)
      have h4 : ((((⟨x.toArray⟩ : ByteArray)[j]'hjs).toNat : Int) == 39) = (((⟨x.toArray⟩ : ByteArray)[j]'hjs) == 39) := byte_eq ((⟨x.toArray⟩ : ByteArray)[j]'hjs) 39 (by omega)
      have hsp : spB ((⟨x.toArray⟩ : ByteArray)[j]'hjs) = (((⟨x.toArray⟩ : ByteArray)[j]'hjs) == 43 || (((⟨x.toArray⟩ : ByteArray)[j]'hjs) == 58 || (((⟨x.toArray⟩ : ByteArray)[j]'hjs) == 63 || ((⟨x.toArray⟩ : ByteArray)[j]'hjs) == 39))) := rfl
      have HB := Lib.hid (fun i => HA.out.alloc (.cells #[.int .u8 (i : Int)] 5))
      have HB2 := Lib.hid (HA.out.alloc (.cells #[.int .u8 63, .int .u8 (((⟨x.toArray⟩ : ByteArray)[j]'hjs).toNat : Int)] 5))
      have HN2 := Lib.hid (fun W => two_news W 63 ((⟨x.toArray⟩ : ByteArray)[j]'hjs) 63 (((⟨x.toArray⟩ : ByteArray)[j]'hjs).toNat : Int) rfl rfl 5)
      have HN1 := Lib.hid (fun W => one_news W ((⟨x.toArray⟩ : ByteArray)[j]'hjs) (((⟨x.toArray⟩ : ByteArray)[j]'hjs).toNat : Int) rfl 5)
      cases hs : spB ((⟨x.toArray⟩ : ByteArray)[j]'hjs) with
      | true =>
        rw [hs] at hst
        have hF3 := Lib.hid (show T = (l2 ++ [63, ((⟨x.toArray⟩ : ByteArray)[j]'hjs)]) ++ esc (x.drop (j + 1)) by rw [hF.out, hst]; simp)
        have HA2 := HB2
        rw [hs] at hsp
        have hor : (((⟨x.toArray⟩ : ByteArray)[j]'hjs) == 43) = true ∨ ((((⟨x.toArray⟩ : ByteArray)[j]'hjs) == 43) = false ∧ (((⟨x.toArray⟩ : ByteArray)[j]'hjs) == 58) = true) ∨ ((((⟨x.toArray⟩ : ByteArray)[j]'hjs) == 43) = false ∧ (((⟨x.toArray⟩ : ByteArray)[j]'hjs) == 58) = false ∧ (((⟨x.toArray⟩ : ByteArray)[j]'hjs) == 63) = true) ∨ ((((⟨x.toArray⟩ : ByteArray)[j]'hjs) == 43) = false ∧ (((⟨x.toArray⟩ : ByteArray)[j]'hjs) == 58) = false ∧ (((⟨x.toArray⟩ : ByteArray)[j]'hjs) == 63) = false ∧ (((⟨x.toArray⟩ : ByteArray)[j]'hjs) == 39) = true) := by
          cases k1 : (((⟨x.toArray⟩ : ByteArray)[j]'hjs) == 43) with
          | true => exact .inl rfl
          | false =>
            cases k2 : (((⟨x.toArray⟩ : ByteArray)[j]'hjs) == 58) with
            | true => exact .inr (.inl ⟨rfl, rfl⟩)
            | false =>
              cases k3 : (((⟨x.toArray⟩ : ByteArray)[j]'hjs) == 63) with
              | true => exact .inr (.inr (.inl ⟨rfl, rfl, rfl⟩))
              | false =>
                rw [k1, k2, k3] at hsp
                exact .inr (.inr (.inr ⟨rfl, rfl, rfl, by simpa using hsp.symm⟩))
        clear hF hst HB HB2 HN1 hsp hs hx2
        rcases hor with k1 | ⟨k1, k2⟩ | ⟨k1, k2, k3⟩ | ⟨k1, k2, k3, k4⟩
        all_goals
          first
            | (rw [k1] at h1; rw [k2] at h2; rw [k3] at h3; rw [k4] at h4; clear k1 k2 k3 k4)
            | (rw [k1] at h1; rw [k2] at h2; rw [k3] at h3; clear k1 k2 k3 h4)
            | (rw [k1] at h1; rw [k2] at h2; clear k1 k2 h3 h4)
            | (rw [k1] at h1; clear k1 h2 h3 h4)
          have HA := HA
          go_wp2_with (at_builtin; refine wpList_append_bytes rfl _ _ 32 rfl base 5 i0 Tryd.underlying32 hi hz0 hz1 hz2 _ l2 rfl HA2.out.row ⟨wr.heap.size, 0, none⟩ 2 [63, ((⟨x.toArray⟩ : ByteArray)[j]'hjs)] rfl (HN2.out wr) hT2 HA2.out.hi ?_)
          intro vb3 w3 hr3 hg3
          have HA3 := Lib.hid (HA2.out.grown hr3 hg3)
          clear HA2 HA hr3 hg3 HN2
          go_wp2_with fail
          go_roundw
          case rel => exact ⟨_, _, j + 1, rfl, by go_num, by omega, hF3, HA3⟩
          case measure => simp [intOf]; omega
      | false =>
        rw [hs] at hst
        obtain ⟨c1, c2, c3, c4⟩ := sp_not hs
        have hF3 := Lib.hid (show T = (l2 ++ [((⟨x.toArray⟩ : ByteArray)[j]'hjs)]) ++ esc (x.drop (j + 1)) by rw [hF.out, hst]; simp)
        have HA2 := Lib.hid (HB.out ((⟨x.toArray⟩ : ByteArray)[j]'hjs).toNat)
        rw [beq_eq_false_iff_ne.2 c1] at h1
        rw [beq_eq_false_iff_ne.2 c2] at h2
        rw [beq_eq_false_iff_ne.2 c3] at h3
        rw [beq_eq_false_iff_ne.2 c4] at h4
        clear hF hst HB HB2 HN2 hsp hs hx2 c1 c2 c3 c4
        go_wp2_with (at_builtin; refine wpList_append_bytes rfl _ _ 32 rfl base 5 i0 Tryd.underlying32 hi hz0 hz1 hz2 _ l2 rfl HA2.out.row ⟨wr.heap.size, 0, none⟩ 1 [((⟨x.toArray⟩ : ByteArray)[j]'hjs)] rfl (HN1.out wr) hl1 HA2.out.hi ?_)
        intro vb3 w3 hr3 hg3
        have HA3 := Lib.hid (HA2.out.grown hr3 hg3)
        clear HA2 HA hr3 hg3 HN1
        go_wp2_with fail
        go_roundw
        case rel => exact ⟨_, _, j + 1, rfl, by go_num, by omega, hF3, HA3⟩
        case measure => simp [intOf]; omega
    · obtain rfl : j = x.length := by omega
      have hTT : T = l2 := by rw [hF.out, List.drop_length]; exact List.append_nil _
      have d1 : decide ((x.length : Int) < (x.length : Int)) = false := decide_eq_false (by omega)
      clear hF
      subst hTT
      go_wp2_with fail
      go_ret
      exact ⟨_, rfl, HA.out⟩

set_option maxRecDepth 100000 in
set_option maxHeartbeats 1600000 in
theorem appSegment_any (base : Nat) (vb : Value) (l t : List UInt8) (v : Value) (E : List (List (List UInt8))) (w : World) (h : ByteRow w base 5 vb l) (hb : base ≤ w.heap.size) (hE : ElemsIn (· < base) w v E) (hs : segE ⟨t, E⟩ = 0) (hl : l.length ≤ 50000000000000) :
    Calls Tryd.prog 44 #[vb, .agg #[strV t, v]] w fun e w' => ∃ u, e = .returned u ∧ AppAt base w w' u (l ++ encS ⟨t, E⟩) := by
  obtain ⟨i0, hi, hz0, hz1, hz2⟩ := info_parts info_byte
  have hlen := encS_len hs
  obtain ⟨htag, hlong, _⟩ := seg_ok hs
  obtain ⟨ao, cap, rfl, hEl, _⟩ := hE.form
  have hlt0 := Lib.hid h.lt
  have HA0 := Lib.hid ((show AppAt base w w vb l from ⟨h, Below.refl _ _, hb⟩).alloc (.cells #[strV t, .slice ao E.length cap] 49))
  have hKE := Lib.hid (fun (wx : World) (hw : Below base w wx) => hE.keep (q := (· < base)) (w1 := wx) fun b hb1 => ⟨hb1, hw.block b hb1⟩)
  have q0 : (w.alloc (.cells #[strV t, .slice ao E.length cap] 49)).cell? ⟨w.heap.size, 0, none⟩ = some (strV t) := by simp [go_sem]
  have q1 : (w.alloc (.cells #[strV t, .slice ao E.length cap] 49)).cell? ⟨w.heap.size, 1, none⟩ = some (.slice ao E.length cap) := by simp [go_sem]
  have hsz : (w.alloc (.cells #[strV t, .slice ao E.length cap] 49)).heap.size = w.heap.size + 1 := by simp
  obtain ⟨T, hT⟩ : ∃ T, T = l ++ encS ⟨t, E⟩ := ⟨_, rfl⟩
  rw [← hT]
  have hF0 := Lib.hid (show T = (l ++ t) ++ (encEls (E.drop 0) ++ [39]) by rw [hT]; unfold encS bodyS; simp)
  have hTl : T.length ≤ 60000000000000 := by
    rw [hT, List.length_append]
    omega
  have hml : l.length + t.length ≤ 100000000000000 := by
    have := congrArg List.length hF0.out
    rw [List.length_append, List.length_append] at this
    omega
  have HL := Lib.hid (show ∀ (i : Nat) (e : List (List UInt8)), E[i]? = some e → e.length ≤ 100 ∧ ∀ (k : Nat) (x : List UInt8), e[k]? = some x → x.length ≤ 1000 from fun i e he => by
    unfold longB at hlong
    rw [Bool.or_eq_false_iff] at hlong
    have h1 := List.any_eq_false.1 hlong.2 e (List.mem_of_getElem? he)
    unfold longE at h1
    simp only [Bool.or_eq_true, decide_eq_true_eq, List.any_eq_true, not_or, not_exists, not_and] at h1
    exact ⟨by omega, fun k x hx => by have := h1.2 x (List.mem_of_getElem? hx); omega⟩)
  have hE100 : E.length ≤ 100 := by
    unfold longB at hlong
    rw [Bool.or_eq_false_iff] at hlong
    simpa using hlong.1
  clear hT h hlen hs htag hlong hE hEl
  go_enter Tryd.func44, Tryd.ntmps44
  go_wp2_with (at_builtin; refine wpList_append_text rfl _ _ 32 9 rfl base 5 i0 Tryd.underlying32 Tryd.underlying9 hi hz0 hz1 hz2 _ l rfl HA0.out.row t rfl hml HA0.out.hi ?_)
  intro vb1 w1 hr1 hg1
  have HA1 := Lib.hid (HA0.out.grown hr1 hg1)
  have q2 : w1.cell? ⟨w.heap.size, 1, none⟩ = some (.slice ao E.length cap) := (World.cell?_of_block (a := ⟨w.heap.size, 1, none⟩) (hg1.block w.heap.size (by omega) (fun e => by
    have := (hlt0.out _ e.symm).2
    omega))).trans q1
  clear q0 q1 hsz hr1 hg1 hlt0 HA0
  go_wp2_with fail
  go_loopw [0, 16] (fun vb vi wx => ∃ (u : Value) (l2 : List UInt8) (i : Nat), u = vb ∧ vi = .int .i64 i ∧ i ≤ E.length ∧ Hid (T = l2 ++ (encEls (E.drop i) ++ [39])) ∧ Hid (AppAt base w wx u l2)) (fun _ vi _ => E.length - (intOf vi).toNat)
  case atStart => exact ⟨_, _, 0, rfl, by go_num, by omega, hF0, HA1⟩
  case round =>
    clear hF0 HA1 q2
    obtain ⟨u, l2, i, rfl, rfl, hi', hF, HA⟩ := hrel
    by_cases hlt : i < E.length
    · obtain ⟨e, he⟩ : ∃ e, E[i]? = some e := ⟨_, List.getElem?_eq_getElem hlt⟩
      obtain ⟨he100, hx1000⟩ := HL.out i e he
      have HX := Lib.hid hx1000
      have HI := Lib.hid he
      have hst := els_step he
      have d1 : decide ((i : Int) < (E.length : Int)) = true := decide_eq_true (by omega)
      obtain ⟨ao2, cap2, hv2, _, hEa⟩ := (hKE.out wr HA.out.below).form
      cases hv2
      obtain ⟨a0, u0, rfl, hc0, hS⟩ := hEa i e he
      obtain ⟨bo, cap3, rfl, _, _⟩ := hS.form
      have HS := Lib.hid (fun (wx : World) (hw : Below base wr wx) => hS.keep (q := (· < base)) (w1 := wx) fun b hb1 => ⟨hb1, hw.block b hb1⟩)
      have HAa := Lib.hid (HA.out.alloc (.cells #[.int .u8 43] 5))
      have hF2 := Lib.hid (show T = (l2 ++ [43]) ++ ((moreE 0 (e.drop 0) ++ encEls (E.drop (i + 1))) ++ [39]) by rw [hF.out, hst]; simp)
      have hl1 : l2.length + 1 ≤ 100000000000000 := by
        have := congrArg List.length hF2.out
        simp only [List.length_append, List.length_cons, List.length_nil] at this
        omega
      have HB := Lib.hid HA.out
      clear hF hst HA hEa hx1000 he hS
      go_wp2_with (at_builtin; refine wpList_append_bytes rfl _ _ 32 rfl base 5 i0 Tryd.underlying32 hi hz0 hz1 hz2 _ l2 rfl HAa.out.row ⟨wr.heap.size, 0, none⟩ 1 [43] rfl (one_news wr 43 43 rfl 5) hl1 HAa.out.hi ?_)
      intro vb1 w2 hr2 hg2
      have HA2 := Lib.hid (HAa.out.grown hr2 hg2)
      have HW2 := Lib.hid (show Below base wr w2 from ((Below.refl base wr).alloc HB.out.hi _).grown hg2 HAa.out.hi fun k hk => (HAa.out.row.lt k hk).1)
      clear hr2 hg2 HAa hl1 HB
      go_wp2_with fail
      go_loopw [0, 25] (fun vb vk wx => ∃ (u : Value) (l2 : List UInt8) (k : Nat), u = vb ∧ vk = .int .i64 k ∧ k ≤ e.length ∧ Hid (T = l2 ++ ((moreE k (e.drop k) ++ encEls (E.drop (i + 1))) ++ [39])) ∧ Hid (AppAt base w wx u l2) ∧ Hid (Below base wr wx)) (fun _ vk _ => e.length - (intOf vk).toNat)
      case atStart => exact ⟨_, _, 0, rfl, by go_num, by omega, hF2, HA2, HW2⟩
      case round =>
        clear hF2 HA2 HW2 hc0
        obtain ⟨u, l2, k, rfl, rfl, hk', hF, HA, HW⟩ := hrel
        by_cases hkt : k < e.length
        · obtain ⟨x, hx⟩ : ∃ x, e[k]? = some x := ⟨_, List.getElem?_eq_getElem hkt⟩
          obtain ⟨bo2, cap4, hv3, _, hea⟩ := (HS.out wr HW.out).form
          cases hv3
          obtain ⟨b0, rfl, hck, _⟩ := hea k x hx
          have hxl := HX.out k x hx
          have d2 : decide ((k : Int) < (e.length : Int)) = true := decide_eq_true (by omega)
          have hst := more_step hx
          have hesc := esc_len x
          by_cases hk0 : k = 0
          · have hF2 := Lib.hid (show T = (l2 ++ esc x) ++ ((moreE (k + 1) (e.drop (k + 1)) ++ encEls (E.drop (i + 1))) ++ [39]) by rw [hF.out, hst, if_pos hk0]; simp)
            have d3 : decide (0 < (k : Int)) = false := decide_eq_false (by omega)
            have d4 : decide (0 < k) = false := decide_eq_false (by omega)
            have hT2 : l2.length + 2 * x.length ≤ 90000000000000 := by
              have := congrArg List.length hF.out
              rw [List.length_append] at this
              omega
            have HC := Lib.hid (appComp_any base u l2 x wr HA.out.row HA.out.hi hxl hT2)
            clear hF hst hk0 hea hx
            go_wp2_with fail
            refine HC.out.mono ?_
            rintro e3 w3 ⟨u3, rfl, hA3⟩
            have HA3 := Lib.hid (HA.out.then_ hA3)
            have HW3 := Lib.hid (HW.out.trans hA3.below)
            clear HC HA HW hA3 hck
            go_wp2_with fail
            go_roundw
            case rel => exact ⟨_, _, k + 1, rfl, by go_num, by omega, hF2, HA3, HW3⟩
            case measure => simp [intOf]; omega
          · have hF2 := Lib.hid (show T = ((l2 ++ [58]) ++ esc x) ++ ((moreE (k + 1) (e.drop (k + 1)) ++ encEls (E.drop (i + 1))) ++ [39]) by rw [hF.out, hst, if_neg hk0]; simp)
            have d3 : decide (0 < (k : Int)) = true := decide_eq_true (by omega)
            have d4 : decide (0 < k) = true := decide_eq_true (by omega)
            have hT2 : (l2 ++ [58]).length + 2 * x.length ≤ 90000000000000 := by
              have := congrArg List.length hF2.out
              rw [List.length_append, List.length_append] at this
              omega
            have hl1 : l2.length + 1 ≤ 100000000000000 := by
              rw [List.length_append] at hT2
              have h1 : ([58] : List UInt8).length = 1 := rfl
              omega
            have HAa := Lib.hid (HA.out.alloc (.cells #[.int .u8 58] 5))
            have HX2 := Lib.hid hx
            have HWa := Lib.hid (show Below base _ (wr.alloc (.cells #[.int .u8 58] 5)) from HW.out.alloc HA.out.hi _)
            clear hF hst hk0 hea hx HA HW
            go_wp2_with (at_builtin; refine wpList_append_bytes rfl _ _ 32 rfl base 5 i0 Tryd.underlying32 hi hz0 hz1 hz2 _ l2 rfl HAa.out.row ⟨wr.heap.size, 0, none⟩ 1 [58] rfl (one_news wr 58 58 rfl 5) hl1 HAa.out.hi ?_)
            intro vb5 w5 hr5 hg5
            have HA5 := Lib.hid (HAa.out.grown hr5 hg5)
            have HW5 := Lib.hid (HWa.out.grown hg5 HAa.out.hi fun k hk => (HAa.out.row.lt k hk).1)
            have HC := Lib.hid (appComp_any base vb5 (l2 ++ [58]) x w5 HA5.out.row HA5.out.hi hxl hT2)
            have hck5 : w5.cell? (b0.add k) = some (strV x) := by
              obtain ⟨bo2, cap4, hv3, _, hea⟩ := (HS.out w5 HW5.out).form
              cases hv3
              obtain ⟨b1, hb1, hck6, _⟩ := hea k x HX2.out
              cases hb1
              exact hck6
            clear HAa HWa hr5 hg5 hck HX2
            go_wp2_with fail
            refine HC.out.mono ?_
            rintro e3 w3 ⟨u3, rfl, hA3⟩
            have HA3 := Lib.hid (HA5.out.then_ hA3)
            have HW3 := Lib.hid (HW5.out.trans hA3.below)
            clear HC HA5 HW5 hA3 hck5
            go_wp2_with fail
            go_roundw
            case rel => exact ⟨_, _, k + 1, rfl, by go_num, by omega, hF2, HA3, HW3⟩
            case measure => simp [intOf]; omega
        · obtain rfl : k = e.length := by omega
          have hF2 := Lib.hid (show T = l2 ++ (encEls (E.drop (i + 1)) ++ [39]) by rw [hF.out, List.drop_length]; simp [moreE])
          have d2 : decide ((e.length : Int) < (e.length : Int)) = false := decide_eq_false (by omega)
          clear hF HS HW
          go_wp2_with fail
          go_roundw
          case rel => exact ⟨_, _, i + 1, rfl, by go_num, by omega, hF2, HA⟩
          case measure => simp [intOf]; omega
    · obtain rfl : i = E.length := by omega
      have hF2 := Lib.hid (show T = l2 ++ [39] by rw [hF.out, List.drop_length]; rfl)
      have hl1 : l2.length + 1 ≤ 100000000000000 := by
        have := congrArg List.length hF2.out
        rw [List.length_append] at this
        have h1 : ([39] : List UInt8).length = 1 := rfl
        omega
      have d1 : decide ((E.length : Int) < (E.length : Int)) = false := decide_eq_false (by omega)
      have HAa := Lib.hid (HA.out.alloc (.cells #[.int .u8 39] 5))
      clear hF HA hKE HL
      go_wp2_with (at_builtin; refine wpList_append_bytes rfl _ _ 32 rfl base 5 i0 Tryd.underlying32 hi hz0 hz1 hz2 _ l2 rfl HAa.out.row ⟨wr.heap.size, 0, none⟩ 1 [39] rfl (one_news wr 39 39 rfl 5) hl1 HAa.out.hi ?_)
      intro vb2 w5 hr5 hg5
      have HA5 := Lib.hid (HAa.out.grown hr5 hg5)
      rw [← hF2.out] at HA5
      clear HAa hr5 hg5
      go_wp2_with fail
      go_ret
      exact ⟨_, rfl, HA5.out⟩

/-- The encoding so far. -/
structure LEncAt (w wx : World) (v u : Value) (L : List Seg) (l : List UInt8) : Prop where
  at_ : AppAt w.heap.size w wx u l
  segs : SegsIn (Has_ w) wx v L
theorem LEncAt.keep {w wx w1 : World} {v u : Value} {L : List Seg} {l : List UInt8} (h : LEncAt w wx v u L l) (hb : Below wx.heap.size wx w1) : LEncAt w w1 v u L l :=
  ⟨⟨h.at_.row.keep hb, h.at_.below.trans (hb.mono h.at_.hi), Nat.le_trans h.at_.hi hb.size⟩, h.segs.keep fun _ hh => ⟨hh, hb.block _ (Nat.lt_of_lt_of_le hh h.at_.hi)⟩⟩
theorem LEncAt.step {w wx w1 : World} {v u u1 : Value} {L : List Seg} {l l1 : List UInt8} (h : LEncAt w wx v u L l) (k : AppAt w.heap.size wx w1 u1 l1) : LEncAt w w1 v u1 L l1 :=
  ⟨h.at_.then_ k, h.segs.keep fun b hb => ⟨hb, k.below.block b hb⟩⟩

set_option maxRecDepth 100000 in
set_option maxHeartbeats 1600000 in
theorem segEncode_row (v : Value) (L : List Seg) (w : World) (h : SegsIn (Has_ w) w v L) (hn : L.length ≤ 100000) :
    Calls Tryd.prog 18 #[v] w fun e w' => ∃ u, e = .returned (.tuple #[u, .int .i64 (encF [] L).2]) ∧ ByteRow w' w.heap.size 5 u (encF [] L).1 ∧ Below w.heap.size w w' := by
  obtain ⟨R, hR⟩ : ∃ R, R = encF [] L := ⟨_, rfl⟩
  have HR := Lib.hid (show encF [] (L.drop 0) = R from hR.symm)
  rw [← hR]
  clear hR
  obtain ⟨ao, cap, rfl, hLl, _⟩ := h.form
  have HS := Lib.hid h
  clear h
  go_enter Tryd.func18, Tryd.ntmps18
  go_wp2_with fail
  go_loopw [4, 10] (fun vb vi wx => ∃ (u : Value) (l : List UInt8) (i : Nat), u = vb ∧ vi = .int .i64 i ∧ i ≤ L.length ∧ l.length ≤ i * 30000000 ∧ Hid (encF l (L.drop i) = R) ∧ Hid (LEncAt w wx (.slice ao L.length cap) u L l)) (fun _ vi _ => L.length - (intOf vi).toNat)
  case atStart => exact ⟨_, [], 0, rfl, by go_num, by omega, Nat.zero_le _, HR, Lib.hid ⟨⟨ByteRow.nil _ _ _, Below.refl _ _, Nat.le_refl _⟩, HS.out⟩⟩
  case round =>
    clear HR HS
    obtain ⟨u, l, i, rfl, rfl, hi', hll, hF, HA⟩ := hrel
    have hLb : L.length ≤ 9223372036854775807 := by omega
    by_cases hlt : i < L.length
    · obtain ⟨s, hs⟩ : ∃ s, L[i]? = some s := ⟨_, List.getElem?_eq_getElem hlt⟩
      obtain ⟨ao2, cap2, hv2, _, hsa⟩ := HA.out.segs.form
      cases hv2
      obtain ⟨a, x, rfl, hc0, hc1, hx, hst⟩ := hsa i s hs
      obtain ⟨xo, xc, rfl, _⟩ := hx.form
      have d1 : decide ((i : Int) < (L.length : Int)) = true := decide_eq_true (by omega)
      have hBa : Below wr.heap.size wr (wr.alloc (.cells #[strV s.tag, .slice xo s.els.length xc] 49)) := (Below.refl _ _).alloc (Nat.le_refl _) _
      have HA1 := Lib.hid (HA.out.keep hBa)
      have q0 : (wr.alloc (.cells #[strV s.tag, .slice xo s.els.length xc] 49)).cell? ⟨wr.heap.size, 0, none⟩ = some (strV s.tag) := by simp [go_sem]
      have q1 : (wr.alloc (.cells #[strV s.tag, .slice xo s.els.length xc] 49)).cell? ⟨wr.heap.size, 1, none⟩ = some (.slice xo s.els.length xc) := by simp [go_sem]
      have hsz : (wr.alloc (.cells #[strV s.tag, .slice xo s.els.length xc] 49)).heap.size = wr.heap.size + 1 := by simp
      have hx1 : ElemsIn (· < w.heap.size) (wr.alloc (.cells #[strV s.tag, .slice xo s.els.length xc] 49)) (.slice xo s.els.length xc) s.els := hx.keep fun b hb => ⟨hb, hBa.block b (Nat.lt_of_lt_of_le hb HA.out.at_.hi)⟩
      have HV := Lib.hid (segValidate_any s.tag hst (.slice xo s.els.length xc) s.els _ (hx1.keep (q := Has_ (wr.alloc (.cells #[strV s.tag, .slice xo s.els.length xc] 49))) fun b hb => ⟨Nat.lt_of_lt_of_le hb (Nat.le_trans HA.out.at_.hi hBa.size), rfl⟩))
      have HX := Lib.hid hx1
      have hEF := (encF_step l hs).symm.trans hF.out
      have e0 : segE s = segE ⟨s.tag, s.els⟩ := rfl
      rw [e0] at hEF
      clear hF hsa hx hx1 hBa
      unfold strV at *
      by_cases hE : segE ⟨s.tag, s.els⟩ = 0
      · rw [if_pos hE] at hEF
        have hFn := Lib.hid hEF
        have hlen := encS_len hE
        have HE := Lib.hid hE
        rw [hE] at HV
        clear hEF hE e0
        go_wp2_with fail
        generalize wr.alloc (.cells #[.string ⟨s.tag.toArray⟩, .slice xo s.els.length xc] 49) = W at *
        refine HV.out.mono ?_
        rintro e w1 ⟨rfl, hb1⟩
        have HA2 := Lib.hid (HA1.out.keep hb1)
        have q2 : w1.cell? ⟨wr.heap.size, 0, none⟩ = some (.string ⟨s.tag.toArray⟩) := (hb1.cell (by show wr.heap.size < W.heap.size; omega)).trans q0
        have q3 : w1.cell? ⟨wr.heap.size, 1, none⟩ = some (.slice xo s.els.length xc) := (hb1.cell (by show wr.heap.size < W.heap.size; omega)).trans q1
        have HT := Lib.hid (appSegment_any w.heap.size u l s.tag (.slice xo s.els.length xc) s.els w1 HA2.out.at_.row HA2.out.at_.hi (HX.out.keep fun b hb => ⟨hb, hb1.block b (by
          have := HA1.out.at_.hi
          have hb2 : b < w.heap.size := hb
          omega)⟩) HE.out (by omega))
        have hlen2 : (l ++ encS ⟨s.tag, s.els⟩).length ≤ (i + 1) * 30000000 := by rw [List.length_append]; have : (encS ⟨s.tag, s.els⟩).length ≤ 30000000 := hlen; omega
        clear HV HA1 HA hb1 hc0 hc1 HX q0 q1 hlen
        unfold strV at HT
        go_wp2_with fail
        refine HT.out.mono ?_
        rintro e w2 ⟨u2, rfl, hA3⟩
        have HA3 := Lib.hid (HA2.out.step hA3)
        clear HT HA2 hA3 q2 q3
        go_wp2_with fail
        go_roundw
        case rel => exact ⟨_, _, i + 1, rfl, by go_num, by omega, hlen2, hFn, HA3⟩
        case measure => simp [intOf]; omega
      · rw [if_neg hE] at hEF
        have hR : R = ([], segE ⟨s.tag, s.els⟩) := hEF.symm
        have d2 : (segE ⟨s.tag, s.els⟩ != 0) = true := by rw [bne_iff_ne]; exact hE
        clear hEF hE e0 hst HX
        generalize segE ⟨s.tag, s.els⟩ = F at *
        subst hR
        go_wp2_with fail
        generalize wr.alloc (.cells #[.string ⟨s.tag.toArray⟩, .slice xo s.els.length xc] 49) = W at *
        refine HV.out.mono ?_
        rintro e w1 ⟨rfl, hb1⟩
        go_wp2_with fail
        go_ret2
        exact ⟨_, rfl, ByteRow.nil _ _ _, (HA1.out.keep hb1).at_.below⟩
    · obtain rfl : i = L.length := by omega
      have hEF := hF.out
      rw [List.drop_length] at hEF
      have hR : R = (l, 0) := hEF.symm
      have d1 : decide ((L.length : Int) < (L.length : Int)) = false := decide_eq_false (by omega)
      clear hF hEF
      subst hR
      go_wp2_with fail
      go_ret2
      exact ⟨_, rfl, HA.out.at_.row, HA.out.at_.below⟩
end Go.Proofs.YtepkihoakagidaaDoor
