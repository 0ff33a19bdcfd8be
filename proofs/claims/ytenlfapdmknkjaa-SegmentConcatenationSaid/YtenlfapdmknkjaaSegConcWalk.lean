/- The walk through SegmentConcatenation. Condition: the lists' and the bytes' cells are known. -/
import Derived.Test.YtenlfapdmknkjaaSegConc
import Derived.Test.YtenlfapdmknkjaaSegMade2
namespace Go.Proofs.Ytenlfapdmknkjaa
open Go.RowKit

set_option maxRecDepth 100000 in
set_option maxHeartbeats 6400000 in
theorem segmentConcatenation_walk (v : Value) (n : Nat) (f : Nat → Int) (v2 : Value) (n2 : Nat) (f2 : Nat → Int) (vm : Value) (more : List UInt8) (w : World) (h : ListAt w .i64 v n f) (h2 : ListAt w .i64 v2 n2 f2) (hm : BytesIn (Has_ w) w vm more) :
    Calls Try.prog 8 #[v, v2, vm] w fun e w' => e = .returned (.bool true) ∧ Below w.heap.size w w' := by
  have HE := Lib.hid (fun v L w h hn => segEncode_any v L w h hn)
  have HN := Lib.hid (fun v b w h hb => segNext_any v b w h hb)
  have HS := Lib.hid (fun v1 v2 L w h1 h2 => refSame_any v1 v2 L w h1 h2)
  have HA := Lib.hid (fun w => awake6_any w)
  have HM := Lib.hid (madeSegments_any v n f w h)
  have HM2 := Lib.hid (fun w1 (hb : Below w.heap.size w w1) => madeSegments_any v2 n2 f2 w1 (by
    rcases h2 with h | ⟨a, cap, h1, h2, h3, h4⟩
    · exact .inl h
    · exact .inr ⟨a, cap, h1, h2, h3, fun i hi => ⟨cellAt hb (h4 i hi).1, (h4 i hi).2⟩⟩))
  obtain ⟨i0, hi0, hz0, hz1, hz2⟩ := info_parts info_seg1
  obtain ⟨i1, hj0, hy0, hy1, hy2⟩ := info_parts info_byte
  obtain ⟨mo, mc, rfl, hc1, hc2⟩ := hm.slice
  by_cases hlen : 200 < more.length
  obtain ⟨a, rfl⟩ : ∃ a, mo = some a := by
    obtain ⟨_, ⟨_, h1⟩ | ⟨a2, cap2, h2, _⟩⟩ := hm
    · omega
    · injection h2 with e1
      exact ⟨a2, e1⟩
  obtain ⟨M, hB, hml, hl2⟩ : ∃ M : List UInt8, Hid (BytesIn (Has_ w) w (.slice (some a) 200 mc) M) ∧ (M.map byteV).length = 200 * 1 ∧ M.length ≤ 200 := ⟨more.take 200, Lib.hid (hm.take (n := 200) (by omega)), by rw [List.length_map, List.length_take]; omega, by rw [List.length_take]; omega⟩
  have d1 : decide ((200 : Int) < (more.length : Int)) = true := decide_eq_true (by omega)
  have d2 : (200 : Int) ≤ (mc : Int) := by omega
  rotate_left
  obtain ⟨M, hB, hml, hl2⟩ : ∃ M : List UInt8, Hid (BytesIn (Has_ w) w (.slice mo more.length mc) M) ∧ (M.map byteV).length = more.length * 1 ∧ M.length ≤ 200 := ⟨more, Lib.hid hm, by rw [List.length_map]; omega, by omega⟩
  have d1 : decide ((200 : Int) < (more.length : Int)) = false := decide_eq_false (by omega)
  all_goals
    clear h h2 hm
    go_enter Try.func8, Try.ntmps8
    go_wp2_with fail
    refine HM.out.mono ?_
    rintro e w1 ⟨vs, L, rfl, hL12, hval, hV, hb1⟩
    go_wp2_with fail
    refine (HM2.out _ hb1).mono ?_
    rintro e w2 ⟨vt, T, rfl, hT12, hvalT, hT, hb2⟩
    obtain ⟨eL, _⟩ := encode_dec hval
    obtain ⟨eT, _⟩ := encode_dec hvalT
    have hvLT : ∀ s ∈ L ++ T, segE s = 0 := fun s hs => by
      rcases List.mem_append.1 hs with hs | hs
      · exact hval s hs
      · exact hvalT s hs
    obtain ⟨eLT, _⟩ := encode_dec hvLT
    rw [List.flatMap_append] at eLT
    have hn1 : Hid (∀ S L', L = S :: L' → ∀ r, nextF (L.flatMap encS ++ r) = (S, (encS S).length, 0)) := Lib.hid (fun S L' h r => by
      have := next_enc (hval S (by rw [h]; exact List.mem_cons_self ..)) (L'.flatMap encS ++ r)
      rw [h, List.flatMap_cons, List.append_assoc]
      exact this)
    have hsm := flat_small hval (by omega)
    have hsmT := flat_small hvalT (by omega)
    generalize L.flatMap encS = fa at *
    generalize T.flatMap encS = fb at *
    obtain ⟨so, sc, rfl, _⟩ := hV.slice
    obtain ⟨tao, tc, rfl, _⟩ := hT.slice
    have hV2 := Lib.hid (hV.later hb2)
    have hT2 := Lib.hid hT
    have hb := below_next hb1 hb2
    have hB2 := Lib.hid (hB.out.later hb)
    have hL2 := Lib.hid hb
    clear HM HM2 hV hT hb1 hb2 hb hB hvLT hvalT
    go_wp2_with fail
    have HE1 := HE.out _ L _ hV2.out (by omega)
    rw [eL] at HE1
    refine HE1.mono ?_
    rintro e w3 ⟨u, rfl, hu, hb⟩
    obtain ⟨uo, uc, rfl, _⟩ := hu.slice
    have hU3 := Lib.hid hu
    have hV3 := Lib.hid (hV2.out.later hb)
    have hT3 := Lib.hid (hT2.out.later hb)
    have hB3 := Lib.hid (hB2.out.later hb)
    have hL3 := Lib.hid (below_next hL2.out hb)
    clear HE1 hu hb hV2 hT2 hB2 hL2 eL
    dsimp only at *
    go_wp2_with fail
    have HE1 := HE.out _ T _ hT3.out (by omega)
    rw [eT] at HE1
    refine HE1.mono ?_
    rintro e w4 ⟨u4, rfl, hu, hb⟩
    have hW4 := Lib.hid hu
    have hU4 := Lib.hid (hU3.out.later hb)
    have hV4 := Lib.hid (hV3.out.later hb)
    have hT4 := Lib.hid (hT3.out.later hb)
    have hB4 := Lib.hid (hB3.out.later hb)
    have hL4 := Lib.hid (below_next hL3.out hb)
    clear HE1 hu hb hU3 hV3 hT3 hB3 hL3 eT
    dsimp only at *
    obtain ⟨us, hcu, hcs0⟩ := hV4.out.row
    obtain ⟨ut, hct, hts0⟩ := hT4.out.row
    have hcs := Lib.hid hcs0
    have hts := Lib.hid hts0
    have hul := hcs0.1
    have htl := hts0.1
    have K4 := below_alloc w4 (.cells #[] 24)
    have M1 := Lib.hid (show (w4.alloc (.cells #[] 24)).ownsRow w4.heap.size 24 2 (.slice (some ⟨w4.heap.size, 0, none⟩) 0 0) 0 [] from World.ownsRow_lit w4 #[] 0 (Nat.le_refl _) (Nat.zero_le _) rfl)
    have SC := Lib.hid (fun W (hW : Below w4.heap.size w4 W) ad (had : so = some ad) j x (hx : us[j]? = some x) => cellAt hW (cells_of hcu ad had j x hx))
    have TC := Lib.hid (fun W (hW : Below w4.heap.size w4 W) ad (had : tao = some ad) j x (hx : ut[j]? = some x) => cellAt hW (cells_of hct ad had j x hx))
    have SN := Lib.hid (segs_none hcu)
    have TN := Lib.hid (segs_none hct)
    have o1 := Lib.hid hcs0.one
    have o2 := Lib.hid hts0.one
    clear hcu hct hcs0 hts0
    go_wp2_with (first
      | (at_builtin; refine wpList_append_opt rfl _ _ 30 rfl w4.heap.size 24 i0 _ 2 40 Try.underlying30 hi0 hz0 hz1 hz2 rfl (by omega) _ 0 [] rfl M1.out K4.size so L.length sc us rfl hul SN.out (SC.out _ K4) o1.out (by unfold maxLen; omega) (by omega) ?_; intro v5 w5 own5 grow5; have K5 : Below w4.heap.size w4 w5 := Below.grown K4 grow5 K4.size (fun q hq => (M1.out.lt q hq).1))
      | (at_builtin; refine wpList_append_opt rfl _ _ 30 rfl w4.heap.size 24 i0 _ 2 40 Try.underlying30 hi0 hz0 hz1 hz2 rfl (by omega) _ (0 + L.length) ([] ++ us) rfl own5 K5.size tao T.length tc ut rfl htl TN.out (TC.out _ K5) o2.out (by unfold maxLen; omega) (by omega) ?_; intro v6 w6 own6 grow6; have K6 : Below w4.heap.size w4 w6 := Below.grown K5 grow6 K5.size (fun q hq => (own5.lt q hq).1)))
    have hS6 := Lib.hid (((hcs.out.later K6).append (hts.out.later K6)).segs (by simpa using own6))
    have hU6 := Lib.hid (hU4.out.later K6)
    have hW6 := Lib.hid (hW4.out.later K6)
    have hB6 := Lib.hid (hB4.out.later K6)
    have hL6 := Lib.hid (below_next hL4.out K6)
    clear hU4 hW4 hV4 hT4 hB4 hL4 hcs hts SC TC SN TN o1 o2 M1 own5 own6 grow5 grow6 K4 K5 K6
    have HE1 := HE.out _ (L ++ T) _ hS6.out (by rw [List.length_append]; omega)
    rw [eLT] at HE1
    refine HE1.mono ?_
    rintro e w7 ⟨u7, rfl, hu, hb⟩
    have hcc := hu.text
    have hca := (hU6.out.later hb).text
    have hcb := (hW6.out.later hb).text
    have hU7 := Lib.hid (hU6.out.later hb)
    have hB7 := Lib.hid (hB6.out.later hb)
    have hL7 := Lib.hid (below_next hL6.out hb)
    clear HE1 hu hb hU6 hW6 hB6 hL6 hS6 eLT HE
    dsimp only at *
    have hcat := cat_list fa fb
    rcases L with _ | ⟨S, L⟩
    · clear hn1 hU7 hB7 HN HS
      go_wp2_with fail
      refine (HA.out _).mono ?_
      rintro e w8 ⟨rfl, hb⟩
      go_wp2_with fail
      go_ret
      exact ⟨rfl, below_next hL7.out hb⟩
    · have hS0 := hval S (List.mem_cons_self ..)
      have hnx1 := hn1.out S L rfl
      have htl := tag_len hS0
      have hnx2 := hnx1 []
      rw [List.append_nil] at hnx2
      have HN1 := Lib.hid (fun v w h => HN.out v (fa ++ M) w h (by rw [List.length_append]; omega))
      have HN2 := Lib.hid (fun v w h => HN.out v fa w h (by omega))
      rw [hnx1] at HN1
      rw [hnx2] at HN2
      have hne : (((S :: L).length : Int) == 0) = false := by rw [beq_eq_false_iff_ne, List.length_cons]; omega
      clear hn1 hnx1 hnx2 hS0 hval HN
      generalize (S :: L).length = ll at *
      generalize (encS S).length = el at *
      obtain ⟨tag, els⟩ := S
      dsimp only at *
      have K7 := below_alloc w7 (.cells #[] 5)
      have M1 := Lib.hid (show (w7.alloc (.cells #[] 5)).ownsRow w7.heap.size 5 1 (.slice (some ⟨w7.heap.size, 0, none⟩) 0 0) 0 [] from World.ownsRow_lit w7 #[] 0 (Nat.le_refl _) (Nat.zero_le _) rfl)
      have AC := Lib.hid (fun W (hW : Below w7.heap.size w7 W) => (bytes_of (hU7.out.later hW)).1)
      have AN := Lib.hid ((bytes_of hU7.out).2)
      have BC := Lib.hid (fun W (hW : Below w7.heap.size w7 W) => (bytes_of (hB7.out.later hW)).1)
      have BN := Lib.hid ((bytes_of hB7.out).2)
      have hal : (fa.map byteV).length = fa.length * 1 := by rw [List.length_map]; omega
      have hml2 : M.length = (M.map byteV).length := by rw [List.length_map]
      clear hB7
      go_wp2_with (first
        | (at_builtin; refine wpList_append_opt rfl _ _ 32 rfl w7.heap.size 5 i1 _ 1 1 Try.underlying32 hj0 hy0 hy1 hy2 rfl (by omega) _ 0 [] rfl M1.out K7.size uo fa.length uc (fa.map byteV) rfl hal AN.out (AC.out _ K7) (byte_one fa) (by unfold maxLen; omega) (by omega) ?_; intro v8 w8 own8 grow8; have K8 : Below w7.heap.size w7 w8 := Below.grown K7 grow8 K7.size (fun q hq => (M1.out.lt q hq).1))
        | (at_builtin; refine wpList_append_opt rfl _ _ 32 rfl w7.heap.size 5 i1 _ 1 1 Try.underlying32 hj0 hy0 hy1 hy2 rfl (by omega) _ (0 + fa.length) ([] ++ fa.map byteV) rfl own8 K8.size _ _ mc (M.map byteV) rfl hml BN.out (BC.out _ K8) (byte_one M) (by unfold maxLen; omega) (by omega) ?_; intro v9 w9 own9 grow9; have K9 : Below w7.heap.size w7 w9 := Below.grown K8 grow9 K8.size (fun q hq => (own8.lt q hq).1)))
      have hC9 := Lib.hid (bytes_row (b := fa ++ M) (by simpa using own9))
      have hU9 := Lib.hid (hU7.out.later K9)
      have hL9 := Lib.hid (below_next hL7.out K9)
      clear hU7 hL7 AC AN BC BN M1 own8 own9 grow8 grow9 K7 K8 K9 hml2
      refine (HN1.out _ _ hC9.out).mono ?_
      rintro e wa ⟨y1, rfl, hy1, hb⟩
      obtain ⟨yo, yc, rfl⟩ := hy1.slice
      unfold strV
      have hba := below_next hb (below_alloc wa (.cells #[.string ⟨tag.toArray⟩, .slice yo els.length yc] 24))
      have hUa := Lib.hid (hU9.out.later hba)
      have hYa := Lib.hid (hy1.later (below_alloc wa (.cells #[.string ⟨tag.toArray⟩, .slice yo els.length yc] 24)))
      have hLa := Lib.hid (below_next hL9.out hba)
      obtain ⟨p0, p1⟩ := var_laid wa tag (.slice yo els.length yc)
      clear hU9 hC9 hL9 hb hba hy1 HN1
      go_wp2_with fail
      generalize wa.alloc (.cells #[.string ⟨tag.toArray⟩, .slice yo els.length yc] 24) = wb at *
      generalize wa.heap.size = Pa at *
      refine (HN2.out _ _ hUa.out).mono ?_
      rintro e wc ⟨y2, rfl, hy2', hb⟩
      obtain ⟨zo, zc, rfl⟩ := hy2'.slice
      unfold strV
      have hbc := below_next hb (below_alloc wc (.cells #[.string ⟨tag.toArray⟩, .slice zo els.length zc] 24))
      have hYc := Lib.hid (hYa.out.later hbc)
      have hZc := Lib.hid (hy2'.later (below_alloc wc (.cells #[.string ⟨tag.toArray⟩, .slice zo els.length zc] 24)))
      have hLc := Lib.hid (below_next hLa.out hbc)
      have p0 := cellAt hbc p0
      have p1 := cellAt hbc p1
      obtain ⟨q0, q1⟩ := var_laid wc tag (.slice zo els.length zc)
      clear hUa hYa hLa hb hbc hy2' HN2
      go_wp2_with fail
      have hz : (wc.alloc (.cells #[.string ⟨tag.toArray⟩, .slice zo els.length zc] 24)).heap.size = wc.heap.size + 1 := by simp
      have hP := pair_laid (s := ⟨tag, els⟩) hYc.out hZc.out htl _ rfl
      unfold strV at hP
      generalize wc.alloc (.cells #[.string ⟨tag.toArray⟩, .slice zo els.length zc] 24) = wd at *
      rw [hz] at hP
      refine (HS.out _ _ _ _ hP.1 hP.2.1).mono ?_
      rintro e we ⟨rfl, hm⟩
      have hb := below_next (by rw [hz]; exact hP.2.2) (same_below hm)
      have hLe := Lib.hid (below_next hLc.out hb)
      clear hYc hZc hLc hP hm hb p0 p1 q0 q1 hz
      go_wp2_with fail
      refine (HA.out _).mono ?_
      rintro e wf ⟨rfl, hb⟩
      go_wp2_with fail
      go_ret
      exact ⟨rfl, below_next hLe.out hb⟩
end Go.Proofs.Ytenlfapdmknkjaa
