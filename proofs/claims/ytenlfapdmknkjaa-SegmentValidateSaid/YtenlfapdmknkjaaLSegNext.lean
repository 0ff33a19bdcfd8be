/- What bytes.Equal and the landed Next of package segment return: the first segment of the bytes. Condition: the bytes' cells are known, and there are not too many. -/
import Derived.Test.YtenlfapdmknkjaaLSegRead
import Derived.Test.YtenlfapdmknkjaaSegUse
namespace Go.Proofs.Ytenlfapdmknkjaa
open Go.RowKit

theorem text_eq (x y : List UInt8) : ((⟨x.toArray⟩ : ByteArray).toList == (⟨y.toArray⟩ : ByteArray).toList) = (x == y) := by rw [ByteArray.toList_eq, ByteArray.toList_eq]

set_option maxHeartbeats 1600000 in
theorem bytesEqual_any {p q : Nat → Prop} (u v : Value) (x y : List UInt8) (w : World) (hx : BytesIn p w u x) (hy : BytesIn q w v y) :
    Calls Try.prog 32 #[u, v] w fun e w' => e = .returned (.bool (x == y)) ∧ ∃ k, w' = w.drewN k := by
  have c1 := run_text_of_cells (P := Try.prog) w 32 9 5 u x Try.underlying32 Try.underlying5 Try.underlying9 hx
  have c2 := run_text_of_cells (P := Try.prog) w 32 9 5 v y Try.underlying32 Try.underlying5 Try.underlying9 hy
  unfold strV at c1 c2
  have e := text_eq x y
  clear hx hy
  go_enter Try.func32, Try.ntmps32
  go_wp2_with fail
  go_ret
  exact ⟨rfl, 0, rfl⟩

set_option maxRecDepth 100000 in
set_option maxHeartbeats 1600000 in
theorem segNext_land (v : Value) (b : List UInt8) (w : World) (h : BytesIn (Has_ w) w v b) (hb : b.length ≤ 1000000000) :
    Calls Try.prog 18 #[v] w fun e w' => ∃ x, e = .returned (.tuple #[.agg #[strV (nextF b).1.tag, x], .int .i64 (nextF b).2.1, .int .i64 (nextF b).2.2]) ∧ ElemsIn (NotSeg w') w' x (nextF b).1.els ∧ Below w.heap.size w w' := by
  obtain ⟨ao, cap, rfl, hbc⟩ := h.form
  obtain ⟨R, hR⟩ : ∃ R, R = nextF b := ⟨_, rfl⟩
  have HR := Lib.hid hR
  rw [← hR]
  have hB0 : Below w.heap.size w (w.alloc (.cells #[.string ⟨#[]⟩, .slice none 0 0] 24)) := (Below.refl _ _).alloc (Nat.le_refl _) _
  have hres : (w.alloc (.cells #[.string ⟨#[]⟩, .slice none 0 0] 24)).heap[w.heap.size]? = some (.cells #[.string ⟨#[]⟩, .slice none 0 0] 24 (0, 0)) := by
    show (w.heap.push _)[w.heap.size]? = some _
    simp
  have hI1 := BytesIn.keep h hB0
  have HC := Lib.hid (segCut_any (Has_ (w.alloc (.cells #[.string ⟨#[]⟩, .slice none 0 0] 24))) _ b 39 _ hI1 (by decide) hb)
  have HI1 := Lib.hid hI1
  have H39 : byteV 39 = .int .u8 39 := rfl
  rw [H39] at HC
  clear hR h hbc H39 hI1
  go_enter Try.func18, Try.ntmps18
  go_wp2_with fail
  generalize w.alloc (.cells #[.string ⟨#[]⟩, .slice none 0 0] 24) = W at *
  cases hcut : cutAt 39 b with
  | none =>
    have hN : R = (noSeg, 0, 5) := HR.out.trans (next_none ((end_cut b).trans hcut))
    rw [cutF_none hcut] at HC
    clear HR hcut
    subst hN
    refine HC.out.mono ?_
    rintro e w1 ⟨⟨u1, u2, rfl, hu1, hu2⟩, k, rfl⟩
    have hbk : Below W.heap.size W (W.drewN k) := below_drewN (Below.refl _ _) k
    have HA := Lib.hid ((NextAt.mk hB0 hres).keep hbk)
    clear hB0 hres HC HI1 hu1 hu2 hbk
    generalize W.drewN k = w4 at *
    obtain ⟨⟨z0, f0⟩, z1, f1⟩ := HA.out.cells
    go_wp2_with fail
    obtain ⟨g0, g1⟩ := setTwo z0 z1 (.string ⟨#[]⟩) (.slice none 0 0)
    have hbel : Below w.heap.size w ((w4.setCell ⟨w.heap.size, 0, none⟩ (.string ⟨#[]⟩)).setCell ⟨w.heap.size, 1, none⟩ (.slice none 0 0)) := (HA.out.below.setCell (Nat.le_refl _) _).setCell (Nat.le_refl _) _
    generalize (w4.setCell ⟨w.heap.size, 0, none⟩ (.string ⟨#[]⟩)).setCell ⟨w.heap.size, 1, none⟩ (.slice none 0 0) = W9 at *
    simp [bodyPost, results, Try.results18, go_sem, g0, g1]
    exact ⟨_, ⟨rfl, rfl⟩, ElemsIn.nil _ _, hbel⟩
  | some n =>
    have hN := HR.out.trans (next_land ((end_cut b).trans hcut))
    have hnl := cut_lt 39 b n hcut
    rw [cutF_some hcut] at HC
    have HR2 := Lib.hid hN
    obtain ⟨a, hao⟩ : ∃ a, ao = some a := by
      obtain ⟨_, ⟨h1, h2⟩ | ⟨a2, cap2, h2, _⟩⟩ := HI1.out
      · omega
      · injection h2 with e1
        exact ⟨a2, e1⟩
    subst hao
    have hcap := HI1.out.cap
    clear HR hcut hN
    have hbl : (b.take n).length = n := by rw [List.length_take]; omega
    refine HC.out.mono ?_
    rintro e w1 ⟨⟨u1, u2, rfl, hu1, hu2⟩, k, rfl⟩
    have hbk : Below W.heap.size W (W.drewN k) := below_drewN (Below.refl _ _) k
    have HA := Lib.hid ((NextAt.mk hB0 hres).keep hbk)
    have HI2 := Lib.hid (HI1.out.keep hbk)
    have hu : BytesIn (Has_ (W.drewN k)) (W.drewN k) u1 (b.take n) := hu1
    clear hB0 hres HC HI1 hu1 hu2 hbk
    generalize W.drewN k = w0 at *
    obtain ⟨uo, uc, rfl, _⟩ := hu.form
    have HC2 := Lib.hid (segRead_any _ _ w0 hu (by omega))
    have hst := readL_tag_len (b.take n) (by omega)
    rw [hbl] at HC2
    clear hu
    generalize readL (b.take n) = S at *
    rw [hbl]
    go_wp2_with fail
    refine HC2.out.mono ?_
    rintro e w1 ⟨x, rfl, hx, hb1⟩
    obtain ⟨xo, xc, rfl, _⟩ := hx.form
    have HA1 := Lib.hid (HA.out.keep hb1)
    have hBx := box_at w1 S.tag (.slice xo S.els.length xc)
    have HM := Lib.hid (show Mid w w1 _ b a cap S (.slice xo S.els.length xc) from ⟨HA1.out.keep hBx.below, hBx, (HI2.out.keep hb1).keep hBx.below, hx.keep fun _ hb1 => hb1.keep hBx.below⟩)
    obtain ⟨c0, c1⟩ := hBx.cells
    clear hBx HA HA1 HI2 HC2 hx hb1
    have hz3 : (w1.alloc (.cells #[.string ⟨S.tag.toArray⟩, .slice xo S.els.length xc] 24)).heap.size = w1.heap.size + 1 := by simp
    unfold strV
    go_wp2_with fail
    have hb4 : Below (w1.alloc (.cells #[.string ⟨S.tag.toArray⟩, .slice xo S.els.length xc] 24)).heap.size (w1.alloc (.cells #[.string ⟨S.tag.toArray⟩, .slice xo S.els.length xc] 24)) ((w1.alloc (.cells #[.string ⟨S.tag.toArray⟩, .slice xo S.els.length xc] 24)).alloc (.cells #[.string ⟨S.tag.toArray⟩, .slice xo S.els.length xc] 24)) := (Below.refl _ _).alloc (Nat.le_refl _) _
    have hx4 : ((w1.alloc (.cells #[.string ⟨S.tag.toArray⟩, .slice xo S.els.length xc] 24)).alloc (.cells #[.string ⟨S.tag.toArray⟩, .slice xo S.els.length xc] 24)).heap[w1.heap.size + 1]? = some (.cells #[strV S.tag, .slice xo S.els.length xc] 24 (0, 0)) := by
      have h5 := (box_at (w1.alloc (.cells #[.string ⟨S.tag.toArray⟩, .slice xo S.els.length xc] 24)) S.tag (.slice xo S.els.length xc)).box
      rw [hz3] at h5
      exact h5
    have HM4 := Lib.hid (HM.out.keep hb4)
    generalize (w1.alloc (.cells #[.string ⟨S.tag.toArray⟩, .slice xo S.els.length xc] 24)).alloc (.cells #[.string ⟨S.tag.toArray⟩, .slice xo S.els.length xc] 24) = W4 at *
    clear HM hb4 c0 c1 hz3
    have HE := Lib.hid (segEncode_row _ [S] W4 (segs_one hx4 (HM4.out.els.keep fun _ hb1 => ⟨hb1.has, rfl⟩) (by unfold maxLen; omega)) (by simp))
    have hEF : encF [] [S] = if segE S = 0 then ([] ++ encS S, 0) else ([], segE S) := rfl
    rw [hEF] at HE
    clear hEF hx4
    by_cases hE : segE S = 0
    · rw [if_pos hE] at HE
      refine HE.out.mono ?_
      rintro e w5 ⟨u5, rfl, hr5, hb5⟩
      have HM5 := Lib.hid (HM4.out.keep hb5)
      have hQ := Lib.hid (bytesEqual_any u5 (Value.slice (some a) (n + 1) cap) (encS S) (b.take (n + 1)) w5 hr5.bytes (HM5.out.inp.take (n := n + 1) (by omega)))
      obtain ⟨uo5, uc5, rfl, _⟩ := hr5.bytes.form
      have j1 : (0 : Int) ≤ (n : Int) + 1 := by omega
      have j2 : (n : Int) + 1 ≤ (cap : Int) := by omega
      have j3 : ((n : Int) + 1).toNat = n + 1 := by omega
      clear HE HM4 hb5 hr5
      by_cases hTT : encS S = b.take (n + 1)
      · rw [if_pos ⟨hE, hTT⟩] at HR2
        have d5 : (encS S == b.take (n + 1)) = true := by rw [hTT]; simp
        rw [d5] at hQ
        clear hTT d5
        go_wp2_with fail
        refine hQ.out.mono ?_
        rintro e w6 ⟨rfl, k6, rfl⟩
        have HM6 := Lib.hid (HM5.out.keep (below_drewN (Below.refl _ _) k6))
        generalize w5.drewN k6 = w6 at *
        clear HM5 hQ
        obtain ⟨⟨z0, f0⟩, z1, f1⟩ := HM6.out.at_.cells
        obtain ⟨c0, c1⟩ := HM6.out.box.cells
        go_wp2_with fail
        obtain ⟨g0, g1⟩ := setTwo z0 z1 (.string ⟨S.tag.toArray⟩) (.slice xo S.els.length xc)
        have hfin := HM6.out.els.setTwo HM6.out.at_.res (.string ⟨S.tag.toArray⟩) (.slice xo S.els.length xc)
        have hbel : Below w.heap.size w ((w6.setCell ⟨w.heap.size, 0, none⟩ (.string ⟨S.tag.toArray⟩)).setCell ⟨w.heap.size, 1, none⟩ (.slice xo S.els.length xc)) := (HM6.out.at_.below.setCell (Nat.le_refl _) _).setCell (Nat.le_refl _) _
        generalize (w6.setCell ⟨w.heap.size, 0, none⟩ (.string ⟨S.tag.toArray⟩)).setCell ⟨w.heap.size, 1, none⟩ (.slice xo S.els.length xc) = W9 at *
        simp [bodyPost, results, Try.results18, go_sem, g0, g1]
        rw [HR2.out]
        exact ⟨_, ⟨⟨rfl, rfl⟩, by simp⟩, hfin, hbel⟩
      · rw [if_neg (fun h => hTT h.2)] at HR2
        have d5 : (encS S == b.take (n + 1)) = false := beq_eq_false_iff_ne.2 hTT
        rw [d5] at hQ
        clear hTT d5
        go_wp2_with fail
        refine hQ.out.mono ?_
        rintro e w6 ⟨rfl, k6, rfl⟩
        have HM6 := Lib.hid (HM5.out.keep (below_drewN (Below.refl _ _) k6))
        generalize w5.drewN k6 = w6 at *
        clear HM5 hQ
        obtain ⟨⟨z0, f0⟩, z1, f1⟩ := HM6.out.at_.cells
        go_wp2_with fail
        obtain ⟨g0, g1⟩ := setTwo z0 z1 (.string ⟨#[]⟩) (.slice none 0 0)
        have hbel : Below w.heap.size w ((w6.setCell ⟨w.heap.size, 0, none⟩ (.string ⟨#[]⟩)).setCell ⟨w.heap.size, 1, none⟩ (.slice none 0 0)) := (HM6.out.at_.below.setCell (Nat.le_refl _) _).setCell (Nat.le_refl _) _
        generalize (w6.setCell ⟨w.heap.size, 0, none⟩ (.string ⟨#[]⟩)).setCell ⟨w.heap.size, 1, none⟩ (.slice none 0 0) = W9 at *
        simp [bodyPost, results, Try.results18, go_sem, g0, g1]
        rw [HR2.out]
        exact ⟨_, ⟨⟨rfl, rfl⟩, by simp⟩, ElemsIn.nil _ _, hbel⟩
    · rw [if_neg hE] at HE
      rw [if_neg (fun h => hE h.1)] at HR2
      have d3 : (segE S != 0) = true := by rw [bne_iff_ne]; exact hE
      generalize segE S = F at *
      refine HE.out.mono ?_
      rintro e w5 ⟨u5, rfl, hr5, hb5⟩
      have HM6 := Lib.hid (HM4.out.keep hb5)
      clear HE HM4 hb5 hr5
      obtain ⟨⟨z0, f0⟩, z1, f1⟩ := HM6.out.at_.cells
      go_wp2_with fail
      obtain ⟨g0, g1⟩ := setTwo z0 z1 (.string ⟨#[]⟩) (.slice none 0 0)
      have hbel : Below w.heap.size w ((w5.setCell ⟨w.heap.size, 0, none⟩ (.string ⟨#[]⟩)).setCell ⟨w.heap.size, 1, none⟩ (.slice none 0 0)) := (HM6.out.at_.below.setCell (Nat.le_refl _) _).setCell (Nat.le_refl _) _
      generalize (w5.setCell ⟨w.heap.size, 0, none⟩ (.string ⟨#[]⟩)).setCell ⟨w.heap.size, 1, none⟩ (.slice none 0 0) = W9 at *
      simp [bodyPost, results, Try.results18, go_sem, g0, g1]
      rw [HR2.out]
      exact ⟨_, ⟨⟨rfl, rfl⟩, by simp⟩, ElemsIn.nil _ _, hbel⟩

set_option maxRecDepth 100000 in
set_option maxHeartbeats 3200000 in
theorem segDecode_any (v : Value) (b : List UInt8) (w : World) (h : BytesIn (Has_ w) w v b) (hb : b.length ≤ 1000000000) :
    Calls Try.prog 16 #[v] w fun e w' => ∃ x, e = .returned (.tuple #[x, .int .i64 (decodeF b).2.1, .int .i64 (decodeF b).2.2]) ∧ SegsIn (Has_ w') w' x (decodeF b).1 ∧ Below w.heap.size w w' := by
  obtain ⟨ao, cap, rfl, hbc⟩ := h.form
  have HI := Lib.hid h
  obtain ⟨R, hR⟩ : ∃ R, R = decodeF b := ⟨_, rfl⟩
  have HR := Lib.hid (show ∃ f, b.length - 0 ≤ f ∧ decF f (b.drop 0) 0 [] = R from ⟨b.length, Nat.le_refl _, hR.symm⟩)
  rw [← hR]
  clear hR h hbc
  go_enter Try.func16, Try.ntmps16
  go_wp2_with fail
  go_loopw [5, 6] (fun vl va wx => ∃ (u : Value) (at_ : Nat) (us : List Value) (acc : List Seg), u = vl ∧ va = .int .i64 at_ ∧ at_ ≤ b.length ∧ acc.length ≤ at_ ∧ Hid (∃ f, b.length - at_ ≤ f ∧ decF f (b.drop at_) at_ acc = R) ∧ Hid (DecAt w wx u us acc)) (fun _ va _ => b.length - (intOf va).toNat)
  case atStart => exact ⟨_, 0, [], [], rfl, by go_num, by omega, Nat.zero_le _, HR, Lib.hid ⟨World.ownsRow_nil _ _ _ _, fun i s hi => by simp at hi, Below.refl _ _⟩⟩
  case round =>
    clear HR
    obtain ⟨u, at_, us, acc, rfl, rfl, hat, hac, HF, HD⟩ := hrel
    by_cases hlt : at_ < b.length
    · have d1 : decide ((at_ : Int) < (b.length : Int)) = true := decide_eq_true (by omega)
      have HI1 := Lib.hid (HI.out.keep HD.out.below)
      obtain ⟨a, rfl⟩ : ∃ a, ao = some a := by
        obtain ⟨_, ⟨_, h1⟩ | ⟨a2, cap2, h2, _⟩⟩ := HI.out
        · omega
        · injection h2 with e1
          exact ⟨a2, e1⟩
      have hcap := HI.out.cap
      have j1 : (0 : Int) ≤ (at_ : Int) := by omega
      have j2 : (at_ : Int) ≤ (b.length : Int) := by omega
      have j3 : cap - at_ ≠ 0 := by omega
      have hdl : (b.drop at_).length = b.length - at_ := List.length_drop
      obtain ⟨f, hf1, hf2⟩ := HF.out
      obtain ⟨f, rfl⟩ : ∃ g, f = g + 1 := ⟨f - 1, by omega⟩
      have hne : b.drop at_ ≠ [] := fun e => by rw [e] at hdl; simp at hdl; omega
      have HC := Lib.hid (segNext_land _ _ wr (HI1.out.drop hat) (by omega))
      have HD1 := HD
      by_cases hok : (nextF (b.drop at_)).2.2 = 0
      · rw [dec_ok hne hok, List.drop_drop] at hf2
        have hn := next_ok (b := b.drop at_) (s := (nextF (b.drop at_)).1) (n := (nextF (b.drop at_)).2.1) (by rw [← hok])
        obtain ⟨hn1, _, hn2, hn3⟩ := hn
        rw [hdl] at hn3
        have HF2 := Lib.hid (show ∃ f, b.length - (at_ + (nextF (b.drop at_)).2.1) ≤ f ∧ decF f (b.drop (at_ + (nextF (b.drop at_)).2.1)) (at_ + (nextF (b.drop at_)).2.1) (acc ++ [(nextF (b.drop at_)).1]) = R from ⟨f, by omega, hf2⟩)
        rw [hok] at HC
        clear hf1 hf2 HF hok HI HI1 hne hdl
        generalize nextF (b.drop at_) = N at *
        obtain ⟨S, n, e9⟩ := N
        dsimp only at *
        clear e9
        go_wp2_with fail
        refine HC.out.mono ?_
        rintro e w1 ⟨x, rfl, hx, hb1⟩
        obtain ⟨xo, xc, rfl, _⟩ := hx.form
        have htl : S.tag.length ≤ maxLen := by
          obtain ⟨b1, b2, b3, ht, _⟩ := tag_shape (seg_ok hn1).1
          rw [ht]
          show 3 ≤ maxLen
          unfold maxLen
          omega
        have hBx := box_at w1 S.tag (.slice xo S.els.length xc)
        obtain ⟨c0, c1⟩ := hBx.cells
        have hsz : (w1.alloc (.cells #[.string ⟨S.tag.toArray⟩, .slice xo S.els.length xc] 24)).heap.size = w1.heap.size + 1 := by simp
        have hBy := box_at (w1.alloc (.cells #[.string ⟨S.tag.toArray⟩, .slice xo S.els.length xc] 24)) S.tag (.slice xo S.els.length xc)
        have HX := Lib.hid ((hx.keep fun _ hb2 => hb2.keep hBx.below).keep fun _ hb2 => NotSeg.keep hb2 hBy.below)
        have HD2 := Lib.hid (((HD.out.keep hb1).keep hBx.below).keep hBy.below)
        have hnn := news_two (w1.alloc (.cells #[.string ⟨S.tag.toArray⟩, .slice xo S.els.length xc] 24)) S.tag (.slice xo S.els.length xc)
        rw [hsz] at hnn
        obtain ⟨i1, hj, hy0, hy1, hy2⟩ := info_parts info_seg
        clear hx hb1 HC HD HD1 hBx hBy hn1 hsz
        unfold strV
        go_wp2_with (at_builtin; refine wpList_append_own _ rfl _ _ 30 rfl w.heap.size 24 i1 (.agg #[.string ⟨#[]⟩, .slice none 0 0]) 2 40 Try.underlying30 hj hy0 hy1 hy2 rfl (by decide) _ acc.length us rfl HD2.out.row ⟨w1.heap.size + 1, 0, none⟩ 1 1 [strV S.tag, Value.slice xo S.els.length xc] rfl rfl hnn (by intro u hu; simp at hu; rcases hu with rfl | rfl <;> rfl) (by unfold maxLen; omega) (by omega) HD2.out.below.size ?_)
        intro v1 w3 hown3 hg3 _
        have HD3 := Lib.hid (HD2.out.push hown3 hg3 HX.out htl)
        clear HD2 HX hown3 hg3 hnn
        go_wp2_with fail
        go_roundw
        case rel => exact ⟨_, at_ + n, _, acc ++ [S], rfl, by go_num, by omega, by rw [List.length_append]; show acc.length + 1 ≤ _; omega, HF2, HD3⟩
        case measure => simp [intOf]; omega
      · rw [dec_bad hne hok] at hf2
        have HR2 := Lib.hid hf2
        clear hf1 hf2 HF HI HI1 hne hdl
        generalize nextF (b.drop at_) = N at *
        obtain ⟨S, n, e9⟩ := N
        dsimp only at *
        have d2 : (e9 != 0) = true := by rw [bne_iff_ne]; exact hok
        go_wp2_with fail
        refine HC.out.mono ?_
        rintro e w1 ⟨x, rfl, hx, hb1⟩
        obtain ⟨xo, xc, rfl, _⟩ := hx.form
        have HD2 := Lib.hid ((HD.out.keep hb1).keep (box_at w1 S.tag (.slice xo S.els.length xc)).below)
        clear hx hb1 HC HD HD1
        unfold strV
        go_wp2_with fail
        simp [bodyPost, results, Try.results16, go_sem]
        rw [← HR2.out]
        exact ⟨_, ⟨rfl, by simp⟩, ⟨[], ⟨rfl, .inl ⟨rfl, rfl⟩⟩, fun i s hi => by simp at hi⟩, HD2.out.below⟩
    · obtain rfl : at_ = b.length := by omega
      have d1 : decide ((b.length : Int) < (b.length : Int)) = false := decide_eq_false (by omega)
      obtain ⟨f, _, hf⟩ := HF.out
      rw [List.drop_length, dec_nil] at hf
      have HR := Lib.hid hf
      clear HF hf
      go_wp2_with fail
      simp [bodyPost, results, Try.results16, go_sem]
      rw [← HR.out]
      exact ⟨_, ⟨rfl, by simp⟩, HD.out.done, HD.out.below⟩
end Go.Proofs.Ytenlfapdmknkjaa
