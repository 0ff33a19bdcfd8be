/- What the landed Segments of package message returns. Condition: the message's cells are known, the library's table lies as it was laid. -/
import Derived.Test.YtepkihoakagidaaDoorZLMsgRow
import Derived.Test.YtepkihoakagidaaDoorZMsgSegs
import Derived.Deep.DeepCutAuto
namespace Go.Proofs.YtepkihoakagidaaDoor
open Go.RowKit

set_option maxRecDepth 100000 in
set_option maxHeartbeats 6400000 in
theorem msgSegments_any (m : Msg) (v : Value) (w : World) (h : MsgIn (Has_ w) w v m) (hL : MLib w) :
    Calls Tryd.prog 17 #[v] w fun e w' => ∃ u, e = .returned (.tuple #[u, .int .i64 (msgE m)]) ∧ SegsIn (Has_ w') w' u (if msgE m = 0 then segsM m else []) ∧ Below w.heap.size w w' := by
  have hIn := h
  obtain ⟨⟨vl, rfl, hN⟩, hcl, hyl, htl⟩ := h
  obtain ⟨lo, lc, rfl, hll, _⟩ := hN.form
  have HV := Lib.hid (fun W (hb : Below w.heap.size w W) => msgValidate_any m _ W (hIn.later hb))
  obtain ⟨n, hn⟩ : ∃ n, m.list.length = n := ⟨_, rfl⟩
  rw [hn] at hN hll HV
  have hnb : n ≤ 9223372036854775807 := by unfold maxLen at hll; omega
  have hB0 : Below w.heap.size w (w.alloc (.cells (msgCells m (.slice lo n lc)) 24)) := (Below.refl _ _).alloc (Nat.le_refl _) _
  have HX := Lib.hid (MBox.new w m (.slice lo n lc))
  have HB0 := Lib.hid hB0
  obtain ⟨c0, c1, c2, c3, c4, c5, c6, c7, c8, c9, c10, c11, c12⟩ := HX.out.cells
  have hNw := Lib.hid hN
  have HNn := Lib.hid hn
  have HLw := Lib.hid hL
  rw [hn]
  obtain ⟨R, hR⟩ : ∃ R, R = if msgE m = 0 then segsM m else [] := ⟨_, rfl⟩
  rw [← hR]
  obtain ⟨E, hE⟩ : ∃ E, E = msgE m := ⟨_, rfl⟩
  rw [← hE] at HV hR ⊢
  have HE := Lib.hid hE
  have HR := Lib.hid hR
  clear hn hll hB0 hN hL hIn hE hR
  obtain ⟨i1, hj, hy0, hy1, hy2⟩ := info_parts info_seg
  unfold msgV at *
  unfold msgCells at HX HB0
  unfold strV at *
  go_enter Tryd.func17, Tryd.ntmps17
  go_wp2_with fail
  generalize w.alloc (.cells #[.int .i64 m.kind, .int .i64 m.frm, .int .i64 m.to_, .int .i64 m.num, .int .i64 m.day, .int .i64 m.lot, .int .i64 m.other, .string ⟨m.code.toArray⟩, .string ⟨m.ctry.toArray⟩, .int .i64 m.qty, .int .i64 m.amt, .slice lo n lc, .string ⟨m.text.toArray⟩] 24) = W at *
  refine (HV.out W HB0.out).mono ?_
  rintro e w0 ⟨rfl, hb⟩
  have HX0 := Lib.hid (HX.out.keep hb)
  have HL0 := Lib.hid (HB0.out.trans (hb.mono HB0.out.size))
  clear hb HX HB0 HV c0 c1 c2 c3 c4 c5 c6 c7 c8 c9 c10 c11 c12
  by_cases h0 : E = 0
  rotate_left
  · have z0 : (E != 0) = true := by rw [bne_iff_ne]; exact h0
    have hR := HR.out
    rw [if_neg h0] at hR
    subst hR
    clear hNw HNn HLw HX0 h0 hcl hyl htl HR HE
    go_wp2_with fail
    simp [bodyPost, results, Tryd.results17, go_sem]
    have hnil : SegsIn (Has_ w0) w0 (.slice none 0 0) [] := ⟨[], ⟨rfl, .inl ⟨rfl, rfl⟩⟩, fun i s hi => by simp at hi⟩
    first | exact ⟨hnil, HL0.out⟩ | exact ⟨_, ⟨rfl, rfl⟩, hnil, HL0.out⟩
  subst h0
  have hR := HR.out
  rw [if_pos rfl] at hR
  have HRR := Lib.hid hR
  have h0 : msgE m = 0 := HE.out.symm
  clear hR HE HR
  obtain ⟨g1, g2, g3, g4, g5, g6⟩ := msg_ok h0
  unfold rangeB at g1
  simp only [Bool.and_eq_true, decide_eq_true_eq] at g1
  obtain ⟨⟨a1, a2⟩, a3, a4, a5, a6, a7, a8, a9, a10⟩ := g1
  have n1 := am_range (show amB m.kind = true by simp [amB]; omega)
  have n2 := am_range (inB_am a3 (by omega))
  have n3 := am_range (inB_am a4 (by omega))
  have n4 := am_range (inB_am a5 (by omega))
  have n5 := am_range (inB_am a6 (by omega))
  have n6 := am_range (inB_am a7 (by omega))
  have n7 := am_range (inB_am a8 (by omega))
  have n8 := am_range (inB_am a9 (by omega))
  have n9 := am_range a10
  have HT1 : Hid (∀ W : World, MLib W → Calls Tryd.prog 41 #[.slice (some ⟨W.heap.size, 0, none⟩) 5 5] (W.alloc (.cells #[.int .i64 m.kind, .int .i64 m.frm, .int .i64 m.to_, .int .i64 m.num, .int .i64 m.day] 3)) fun e w' => ∃ B, e = .returned (.slice (some ⟨B, 0, none⟩) 5 5) ∧ StrsIn (StrB w') w' (.slice (some ⟨B, 0, none⟩) 5 5) ([m.kind, m.frm, m.to_, m.num, m.day].map Lib.itoa) ∧ Below W.heap.size W w') := Lib.hid (fun W hL => texts_new [m.kind, m.frm, m.to_, m.num, m.day] W (by simp) (by intro n hn; simp only [List.mem_cons, List.not_mem_nil, or_false] at hn; rcases hn with rfl | rfl | rfl | rfl | rfl <;> assumption) hL)
  have HS1 : Hid (∀ (B : Nat) (W : World), StrsIn (StrB W) W (.slice (some ⟨B, 0, none⟩) 5 5) ([m.kind, m.frm, m.to_, m.num, m.day].map Lib.itoa) → Calls Tryd.prog 40 #[.string ⟨#[77, 83, 71]⟩, .slice (some ⟨B, 0, none⟩) 5 5] W fun e w' => ∃ u, e = .returned (.agg #[.string ⟨#[77, 83, 71]⟩, u]) ∧ ElemsIn (NotSeg w') w' u (rowS tMSG [m.kind, m.frm, m.to_, m.num, m.day]).els ∧ Below W.heap.size W w') := Lib.hid (fun B W h => rowSimple_any tMSG [m.kind, m.frm, m.to_, m.num, m.day] _ W h (by simp))
  have HT2 : Hid (∀ W : World, MLib W → Calls Tryd.prog 41 #[.slice (some ⟨W.heap.size, 0, none⟩) 2 2] (W.alloc (.cells #[.int .i64 m.lot, .int .i64 m.other] 3)) fun e w' => ∃ B, e = .returned (.slice (some ⟨B, 0, none⟩) 2 2) ∧ StrsIn (StrB w') w' (.slice (some ⟨B, 0, none⟩) 2 2) ([m.lot, m.other].map Lib.itoa) ∧ Below W.heap.size W w') := Lib.hid (fun W hL => texts_new [m.lot, m.other] W (by simp) (by intro n hn; simp only [List.mem_cons, List.not_mem_nil, or_false] at hn; rcases hn with rfl | rfl <;> assumption) hL)
  have HS2 : Hid (∀ (B : Nat) (W : World), StrsIn (StrB W) W (.slice (some ⟨B, 0, none⟩) 2 2) ([m.lot, m.other].map Lib.itoa) → Calls Tryd.prog 40 #[.string ⟨#[76, 79, 84]⟩, .slice (some ⟨B, 0, none⟩) 2 2] W fun e w' => ∃ u, e = .returned (.agg #[.string ⟨#[76, 79, 84]⟩, u]) ∧ ElemsIn (NotSeg w') w' u (rowS tLOT [m.lot, m.other]).els ∧ Below W.heap.size W w') := Lib.hid (fun B W h => rowSimple_any tLOT [m.lot, m.other] _ W h (by simp))
  have HI1 : Hid (∀ W : World, MLib W → Calls Tryd.prog 42 #[.int .i64 m.qty] W fun e w' => e = .returned (.string ⟨(Lib.itoa m.qty).toArray⟩) ∧ Below W.heap.size W w') := Lib.hid (fun W hL => mItoa_any m.qty n8.1 n8.2 W hL)
  have HI2 : Hid (∀ W : World, MLib W → Calls Tryd.prog 42 #[.int .i64 m.amt] W fun e w' => e = .returned (.string ⟨(Lib.itoa m.amt).toArray⟩) ∧ Below W.heap.size W w') := Lib.hid (fun W hL => mItoa_any m.amt n9.1 n9.2 W hL)
  have hq21 := itoa_short m.qty n8.1 n8.2
  have hz21 := itoa_short m.amt n9.1 n9.2
  have HS3 : Hid (∀ W : World, Calls Tryd.prog 40 #[.string ⟨#[71, 68, 83]⟩, .slice (some ⟨W.heap.size, 0, none⟩) 4 4] (W.alloc (.cells #[.string ⟨m.code.toArray⟩, .string ⟨m.ctry.toArray⟩, .string ⟨(Lib.itoa m.qty).toArray⟩, .string ⟨(Lib.itoa m.amt).toArray⟩] 9)) fun e w' => ∃ u, e = .returned (.agg #[.string ⟨#[71, 68, 83]⟩, u]) ∧ ElemsIn (NotSeg w') w' u [elS m.code, elS m.ctry, elS (Lib.itoa m.qty), elS (Lib.itoa m.amt)] ∧ Below W.heap.size W w') := Lib.hid (fun W => simple_new tGDS [m.code, m.ctry, Lib.itoa m.qty, Lib.itoa m.amt] W (by simp) (by intro x hx; simp only [List.mem_cons, List.not_mem_nil, or_false] at hx; rcases hx with rfl | rfl | rfl | rfl; exact hcl; exact hyl; unfold maxLen; omega; unfold maxLen; omega))
  have HT4 : Hid (∀ W : World, MLib W → Below w.heap.size w W → Calls Tryd.prog 41 #[.slice lo n lc] W fun e w' => ∃ B, e = .returned (.slice (some ⟨B, 0, none⟩) n n) ∧ StrsIn (StrB w') w' (.slice (some ⟨B, 0, none⟩) n n) (m.list.map Lib.itoa) ∧ Below W.heap.size W w') := Lib.hid (fun W hL hb => by
    have := texts_any (.slice lo n lc) m.list W (NumsIn.later hNw.out hb) (by omega) (fun x hx => am_range (List.all_eq_true.1 g6 x hx)) hL
    rw [HNn.out] at this
    exact this)
  have HS5 : Hid (∀ W : World, Calls Tryd.prog 40 #[.string ⟨#[84, 88, 84]⟩, .slice (some ⟨W.heap.size, 0, none⟩) 1 1] (W.alloc (.cells #[.string ⟨m.text.toArray⟩] 9)) fun e w' => ∃ u, e = .returned (.agg #[.string ⟨#[84, 88, 84]⟩, u]) ∧ ElemsIn (NotSeg w') w' u [elS m.text] ∧ Below W.heap.size W w') := Lib.hid (fun W => simple_new tTXT [m.text] W (by simp) (by intro x hx; rw [List.mem_singleton.1 hx]; exact htl))
  have HT6 : Hid (∀ (k : Nat) (_ : k ≤ 5) (W : World), MLib W → Calls Tryd.prog 41 #[.slice (some ⟨W.heap.size, 0, none⟩) 2 2] (W.alloc (.cells #[.int .i64 ((k : Int) + 1), .int .i64 m.num] 3)) fun e w' => ∃ B, e = .returned (.slice (some ⟨B, 0, none⟩) 2 2) ∧ StrsIn (StrB w') w' (.slice (some ⟨B, 0, none⟩) 2 2) ([(k : Int) + 1, m.num].map Lib.itoa) ∧ Below W.heap.size W w') := Lib.hid (fun k hk W hL => texts_new [(k : Int) + 1, m.num] W (by simp) (by intro n hn; simp only [List.mem_cons, List.not_mem_nil, or_false] at hn; rcases hn with rfl | rfl; exact ⟨by omega, by omega⟩; assumption) hL)
  have HS6 : Hid (∀ (k B : Nat) (W : World), StrsIn (StrB W) W (.slice (some ⟨B, 0, none⟩) 2 2) ([(k : Int) + 1, m.num].map Lib.itoa) → Calls Tryd.prog 40 #[.string ⟨#[69, 78, 68]⟩, .slice (some ⟨B, 0, none⟩) 2 2] W fun e w' => ∃ u, e = .returned (.agg #[.string ⟨#[69, 78, 68]⟩, u]) ∧ ElemsIn (NotSeg w') w' u (rowS tEND [(k : Int) + 1, m.num]).els ∧ Below W.heap.size W w') := Lib.hid (fun k B W h => rowSimple_any tEND [(k : Int) + 1, m.num] _ W h (by simp))
  clear a1 a2 a3 a4 a5 a6 a7 a8 a9 a10 n1 n2 n3 n4 n5 n6 n7 n8 n9 g2 g3 g4 g5 g6 hq21 hz21 hcl hyl htl h0
  have z0 : ((0 : Int) != 0) = false := rfl
  obtain ⟨c0, c1, c2, c3, c4, c5, c6, c7, c8, c9, c10, c11, c12⟩ := HX0.out.cells
  go_wp2_with fail
  refine (HT1.out _ (HLw.out.keep HL0.out)).mono ?_
  rintro e w1 ⟨B1, rfl, hst, hb⟩
  have HX1 := Lib.hid (HX0.out.keep hb)
  have HL1 := Lib.hid (HL0.out.trans (hb.mono HL0.out.size))
  have HS1' := Lib.hid (HS1.out _ _ hst)
  clear hb hst HX0 HL0 HT1 HS1 c0 c1 c2 c3 c4 c5 c6 c7 c8 c9 c10 c11 c12
  go_wp2_with fail
  refine HS1'.out.mono ?_
  rintro e w2 ⟨u, rfl, hE, hb⟩
  obtain ⟨xo, xc, rfl, _⟩ := hE.form
  have HA1 := Lib.hid (SgAt.first (vm := .slice lo n lc) (m := m) (s := rowS tMSG [m.kind, m.frm, m.to_, m.num, m.day]) (HL1.out.trans (hb.mono HL1.out.size)) (HX1.out.keep hb) hNw.out hE (by show 3 ≤ maxLen; unfold maxLen; omega))
  have e1 : (rowS tMSG [m.kind, m.frm, m.to_, m.num, m.day]).tag = [77, 83, 71] := rfl
  rw [e1] at HA1
  unfold strV at HA1
  clear hb hE HX1 HL1 HS1' hNw e1
  go_upto_region 5 with fail
  generalize w2.alloc (.cells #[.string ⟨#[77, 83, 71]⟩, .slice xo (rowS tMSG [m.kind, m.frm, m.to_, m.num, m.day]).els.length xc] 49) = W2 at *
  generalize hL1 : Value.slice (some ⟨w2.heap.size, 0, none⟩) 1 1 = L1 at *
  go_cut [32] (fun s32 wx => s32 = .bool (lotT m) ∧ wx = W2)
  case first =>
    obtain ⟨c0, c1, c2, c3, c4, c5, c6, c7, c8, c9, c10, c11, c12⟩ := HA1.out.cells
    by_cases h5 : m.lot = 0
    · have d5 : (m.lot != 0) = false := by rw [h5]; rfl
      by_cases h6 : m.other = 0
      · have d6 : (m.other != 0) = false := by rw [h6]; rfl
        have hT : lotT m = false := by unfold lotT; rw [d5, d6]; rfl
        clear h5 h6
        go_wp2_with fail
        go_meet
        case rel => exact ⟨by rw [hT], rfl⟩
      · have d6 : (m.other != 0) = true := by rw [bne_iff_ne]; exact h6
        have hT : lotT m = true := by unfold lotT; rw [d5, d6]; rfl
        clear h5 h6
        go_wp2_with fail
        go_meet
        case rel => exact ⟨by rw [hT], rfl⟩
    · have d5 : (m.lot != 0) = true := by rw [bne_iff_ne]; exact h5
      have hT : lotT m = true := by unfold lotT; rw [d5]; rfl
      clear h5
      go_wp2_with fail
      go_meet
      case rel => exact ⟨by rw [hT], rfl⟩
  case rest =>
    obtain ⟨rfl, rfl⟩ := hcut
    go_upto_if 32 with fail
    go_cut [5] (fun s5 wx => ∃ (u : Value) (us : List Value), u = s5 ∧ Hid (SgAt w wx m (.slice lo n lc) u us ([rowS tMSG [m.kind, m.frm, m.to_, m.num, m.day]] ++ lotS_ m)))
    case first =>
      cases hT : lotT m with
      | false =>
        have e : lotS_ m = [] := by
          unfold lotT at hT
          rw [Bool.or_eq_false_iff, bne_eq_false_iff_eq, bne_eq_false_iff_eq] at hT
          exact if_pos hT
        have E := Lib.hid e
        clear hT e
        go_wp2_with fail
        go_meet
        case rel => exact ⟨_, _, rfl, by rw [E.out]; exact HA1⟩
      | true =>
        have e : lotS_ m = [rowS tLOT [m.lot, m.other]] := if_neg (fun h => by unfold lotT at hT; rw [h.1, h.2] at hT; cases hT)
        have E := Lib.hid e
        obtain ⟨c0, c1, c2, c3, c4, c5, c6, c7, c8, c9, c10, c11, c12⟩ := HA1.out.cells
        clear hT e
        go_wp2_with fail
        refine (HT2.out _ (HLw.out.keep HA1.out.dec.below)).mono ?_
        rintro e w3 ⟨B1, rfl, hst, hb⟩
        have HA2 := Lib.hid (HA1.out.keep hb)
        have HS2' := Lib.hid (HS2.out _ _ hst)
        clear hb hst HA1 HT2 HS2 c0 c1 c2 c3 c4 c5 c6 c7 c8 c9 c10 c11 c12
        go_wp2_with fail
        refine HS2'.out.mono ?_
        rintro e w4 ⟨u, rfl, hE, hb⟩
        obtain ⟨xo, xc, rfl, _⟩ := hE.form
        have HA3 := Lib.hid (HA2.out.keep hb)
        have HE3 := Lib.hid hE
        clear hb hE HA2 HS2'
        have HA3b := Lib.hid (HA3.out.keep ((Below.refl w4.heap.size w4).alloc (Nat.le_refl _) (.cells #[.string ⟨#[76, 79, 84]⟩, .slice xo (rowS tLOT [m.lot, m.other]).els.length xc] 49)))
        have HE3b := Lib.hid (HE3.out.keep fun _ hb1 => NotSeg.keep hb1 ((Below.refl w4.heap.size w4).alloc (Nat.le_refl _) (.cells #[.string ⟨#[76, 79, 84]⟩, .slice xo (rowS tLOT [m.lot, m.other]).els.length xc] 49)))
        have hnn := news_two w4 [76, 79, 84] (.slice xo (rowS tLOT [m.lot, m.other]).els.length xc)
        unfold strV at hnn
        clear HA3 HE3
        go_wp2_with (at_builtin; refine wpList_append_own _ rfl _ _ 35 rfl w.heap.size 49 i1 (.agg #[.string ⟨#[]⟩, .slice none 0 0]) 2 40 Tryd.underlying35 hj hy0 hy1 hy2 rfl (by decide) _ _ _ rfl HA3b.out.dec.row ⟨w4.heap.size, 0, none⟩ 1 1 [Value.string ⟨#[76, 79, 84]⟩, .slice xo (rowS tLOT [m.lot, m.other]).els.length xc] rfl rfl hnn (by intro u hu; simp at hu; rcases hu with rfl | rfl <;> rfl) (by unfold maxLen; have := HA3b.out.len; omega) (by have := HA3b.out.len; omega) HA3b.out.dec.below.size ?_)
        intro v9 w9 hown9 hg9 _
        have HA4 := Lib.hid (HA3b.out.push (s := rowS tLOT [m.lot, m.other]) hown9 hg9 HE3b.out (by show 3 ≤ maxLen; unfold maxLen; omega) (by simp))
        clear HA3b HE3b hown9 hg9 hnn
        go_wp2_with fail
        go_meet
        case rel => exact ⟨_, _, rfl, by rw [E.out]; exact HA4⟩
    case rest =>
      clear HA1 HT2 HS2
      obtain ⟨u, us, rfl, HA1⟩ := hcut
      go_upto_region 7 with fail
      go_cut [60] (fun s60 wx => s60 = .bool (gdsT m) ∧ wx = wc)
      case first =>
        obtain ⟨c0, c1, c2, c3, c4, c5, c6, c7, c8, c9, c10, c11, c12⟩ := HA1.out.cells
        obtain ⟨b1, h1⟩ : ∃ b, (m.code == []) = b := ⟨_, rfl⟩
        obtain ⟨b2, h2⟩ : ∃ b, (m.ctry == []) = b := ⟨_, rfl⟩
        obtain ⟨b3, h3⟩ : ∃ b, (m.qty != 0) = b := ⟨_, rfl⟩
        obtain ⟨b4, h4⟩ : ∃ b, (m.amt != 0) = b := ⟨_, rfl⟩
        have hT : Hid (gdsT m = ((!b1) || ((!b2) || (b3 || b4)))) := Lib.hid (by unfold gdsT; rw [h1, h2, h3, h4])
        cases b1
        · clear h2 h3 h4
          go_wp2_with fail
          go_meet
          case rel => exact ⟨by rw [hT.out]; rfl, rfl⟩
        · cases b2
          · clear h3 h4
            go_wp2_with fail
            go_meet
            case rel => exact ⟨by rw [hT.out]; rfl, rfl⟩
          · cases b3
            · cases b4
              all_goals
                go_wp2_with fail
                go_meet
                case rel => exact ⟨by rw [hT.out]; rfl, rfl⟩
            · clear h4
              go_wp2_with fail
              go_meet
              case rel => exact ⟨by rw [hT.out]; rfl, rfl⟩
      case rest =>
        obtain ⟨rfl, rfl⟩ := hcut
        go_upto_if 60 with fail
        go_cut [5] (fun s5 wx => ∃ (u : Value) (us : List Value), u = s5 ∧ Hid (SgAt w wx m (.slice lo n lc) u us (([rowS tMSG [m.kind, m.frm, m.to_, m.num, m.day]] ++ lotS_ m) ++ gdsS m)))
        case first =>
          cases hT : gdsT m with
          | false =>
            have e : gdsS m = [] := by
              unfold gdsT at hT
              simp only [Bool.or_eq_false_iff, bne_eq_false_iff_eq, Bool.not_eq_false', beq_iff_eq] at hT
              exact if_pos hT
            have E := Lib.hid e
            clear hT e
            go_wp2_with fail
            go_meet
            case rel => exact ⟨_, _, rfl, by rw [E.out, List.append_nil]; exact HA1⟩
          | true =>
            have e : gdsS m = [⟨tGDS, [elS m.code, elS m.ctry, elS (Lib.itoa m.qty), elS (Lib.itoa m.amt)]⟩] := if_neg (fun h => by unfold gdsT at hT; rw [h.1, h.2.1, h.2.2.1, h.2.2.2] at hT; cases hT)
            have E := Lib.hid e
            obtain ⟨acc, hacc⟩ : ∃ acc, acc = [rowS tMSG [m.kind, m.frm, m.to_, m.num, m.day]] ++ lotS_ m := ⟨_, rfl⟩
            have hal := Lib.hid (show acc.length < 6 from by rw [hacc]; have := lot_len m; simp only [List.length_append, List.length_cons, List.length_nil]; omega)
            rw [← hacc] at HA1
            have hacc2 := Lib.hid hacc
            clear hT e hacc
            go_upto_region 8 with fail
            have HA2 := Lib.hid (HA1.out.keep (w1 := wc.drew) (Below.refl _ _).drew)
            refine wp_region_noPanic ?_
            refine wp_region_held_drew (S := fun w' => w'.cell? ⟨w.heap.size, 7, none⟩ = some (.string ⟨m.code.toArray⟩) ∧ w'.cell? ⟨w.heap.size, 8, none⟩ = some (.string ⟨m.ctry.toArray⟩) ∧ w'.cell? ⟨w.heap.size, 9, none⟩ = some (.int .i64 m.qty) ∧ w'.cell? ⟨w.heap.size, 10, none⟩ = some (.int .i64 m.amt)) (by kernel_rfl) ⟨HA1.out.cells.c7, HA1.out.cells.c8, HA1.out.cells.c9, HA1.out.cells.c10⟩ (fun hHeld => ?_)
            generalize wc.drew = W5 at *
            clear HA1
            refine wpAnyH_take (i := 0) (v := ?_) rfl (by kernel_rfl) (by kernel_rfl) (by kernel_rfl) (fun _ _ _ h => h) (Or.inl ⟨by rfl, ?_⟩) (by assumption) ?_
            rotate_left
            · intro wS hSw
              obtain ⟨hSw1, hSw2, hSw3, hSw4⟩ := hSw
              go_simp <;> with_reducible rfl
            try simp only [Act.put, List.getElem_toArray, List.getElem_cons_zero, List.setIfInBounds_toArray, List.set_cons_zero, List.set_cons_succ]
            refine wpAnyH_take (i := 1) (v := ?_) rfl (by kernel_rfl) (by kernel_rfl) (by kernel_rfl) (fun _ _ _ h => h) (Or.inl ⟨by rfl, ?_⟩) (by assumption) ?_
            rotate_left
            · intro wS hSw
              obtain ⟨hSw1, hSw2, hSw3, hSw4⟩ := hSw
              go_simp <;> with_reducible rfl
            try simp only [Act.put, List.getElem_toArray, List.getElem_cons_succ, List.getElem_cons_zero, List.setIfInBounds_toArray, List.set_cons_zero, List.set_cons_succ]
            refine wpAnyH_take (i := 2) (v := ?_) rfl (by kernel_rfl) (by kernel_rfl) (by kernel_rfl) (fun _ _ _ h => h) (Or.inl ⟨by rfl, ?_⟩) (by assumption) ?_
            rotate_left
            · intro wS hSw
              obtain ⟨hSw1, hSw2, hSw3, hSw4⟩ := hSw
              go_simp <;> with_reducible rfl
            try simp only [Act.put, List.getElem_toArray, List.getElem_cons_succ, List.getElem_cons_zero, List.setIfInBounds_toArray, List.set_cons_zero, List.set_cons_succ]
            refine wpAnyH_take (i := 3) (v := ?_) rfl (by kernel_rfl) (by kernel_rfl) (by kernel_rfl) (fun _ _ _ h => h) (Or.inl ⟨by rfl, ?_⟩) (by assumption) ?_
            rotate_left
            · intro wS hSw
              obtain ⟨hSw1, hSw2, hSw3, hSw4⟩ := hSw
              go_simp <;> with_reducible rfl
            try simp only [Act.put, List.getElem_toArray, List.getElem_cons_succ, List.getElem_cons_zero, List.setIfInBounds_toArray, List.set_cons_zero, List.set_cons_succ]
            refine wpAnyH_take (i := 4) (v := ?_) rfl (by kernel_rfl) (by kernel_rfl) (by kernel_rfl) (fun _ _ _ h => h) (Or.inl ⟨by rfl, ?_⟩) (by assumption) ?_
            rotate_left
            · intro wS hSw
              obtain ⟨hSw1, hSw2, hSw3, hSw4⟩ := hSw
              go_simp <;> with_reducible rfl
            try simp only [Act.put, List.getElem_toArray, List.getElem_cons_succ, List.getElem_cons_zero, List.setIfInBounds_toArray, List.set_cons_zero, List.set_cons_succ]
            refine wpAnyH_take (i := 5) (v := ?_) rfl (by kernel_rfl) (by kernel_rfl) (by kernel_rfl) (fun _ _ _ h => h) (Or.inl ⟨by rfl, ?_⟩) (by assumption) ?_
            rotate_left
            · intro wS hSw
              obtain ⟨hSw1, hSw2, hSw3, hSw4⟩ := hSw
              go_simp <;> with_reducible rfl
            try simp only [Act.put, List.getElem_toArray, List.getElem_cons_succ, List.getElem_cons_zero, List.setIfInBounds_toArray, List.set_cons_zero, List.set_cons_succ]
            refine wpAnyH_take (i := 6) (v := ?_) rfl (by kernel_rfl) (by kernel_rfl) (by kernel_rfl) (fun _ _ _ h => h) (Or.inl ⟨by rfl, ?_⟩) (by assumption) ?_
            rotate_left
            · intro wS hSw
              obtain ⟨hSw1, hSw2, hSw3, hSw4⟩ := hSw
              go_simp <;> with_reducible rfl
            try simp only [Act.put, List.getElem_toArray, List.getElem_cons_succ, List.getElem_cons_zero, List.setIfInBounds_toArray, List.set_cons_zero, List.set_cons_succ]
            refine wpAnyH_take (i := 8) (v := ?_) rfl (by kernel_rfl) (by kernel_rfl) (by kernel_rfl) (fun _ _ _ h => h) (Or.inl ⟨by rfl, ?_⟩) (by assumption) ?_
            rotate_left
            · intro wS hSw
              obtain ⟨hSw1, hSw2, hSw3, hSw4⟩ := hSw
              go_simp <;> with_reducible rfl
            try simp only [Act.put, List.getElem_toArray, List.getElem_cons_succ, List.getElem_cons_zero, List.setIfInBounds_toArray, List.set_cons_zero, List.set_cons_succ]
            refine wpAnyH_take (i := 9) (v := ?_) rfl (by kernel_rfl) (by kernel_rfl) (by kernel_rfl) (fun _ _ _ h => h) (Or.inl ⟨by rfl, ?_⟩) (by assumption) ?_
            rotate_left
            · intro wS hSw
              obtain ⟨hSw1, hSw2, hSw3, hSw4⟩ := hSw
              go_simp <;> with_reducible rfl
            try simp only [Act.put, List.getElem_toArray, List.getElem_cons_succ, List.getElem_cons_zero, List.setIfInBounds_toArray, List.set_cons_zero, List.set_cons_succ]
            refine wpAnyH_ready (rs := [7]) (by kernel_rfl) (by simp) ?_
            refine AllReadyH.cons rfl (fun K hK => ?_) AllReadyH.nil
            go_simp
            refine (HI1.out _ (HLw.out.keep HA2.out.dec.below)).mono ?_
            rintro e wA ⟨rfl, hbA⟩
            replace HA2 := Lib.hid (HA2.out.keep hbA)
            clear hbA
            refine hK.out _ _ (⟨HA2.out.cells.c7, HA2.out.cells.c8, HA2.out.cells.c9, HA2.out.cells.c10⟩) (fun hHeld => ?_)
            clear hK K
            try simp only [Act.put, List.getElem_toArray, List.getElem_cons_succ, List.getElem_cons_zero, List.setIfInBounds_toArray, List.set_cons_zero, List.set_cons_succ]
            refine wpAnyH_ready (rs := [10]) (by kernel_rfl) (by simp) ?_
            refine AllReadyH.cons rfl (fun K hK => ?_) AllReadyH.nil
            go_simp
            refine (HI2.out _ (HLw.out.keep HA2.out.dec.below)).mono ?_
            rintro e wA ⟨rfl, hbA⟩
            replace HA2 := Lib.hid (HA2.out.keep hbA)
            clear hbA
            refine hK.out _ _ (⟨HA2.out.cells.c7, HA2.out.cells.c8, HA2.out.cells.c9, HA2.out.cells.c10⟩) (fun hHeld => ?_)
            clear hK K
            try simp only [Act.put, List.getElem_toArray, List.getElem_cons_succ, List.getElem_cons_zero, List.setIfInBounds_toArray, List.set_cons_zero, List.set_cons_succ]
            refine wpAnyH_ready (rs := [11]) (by kernel_rfl) (by simp) ?_
            refine AllReadyH.cons rfl (fun K hK => ?_) AllReadyH.nil
            go_simp
            refine hK.out _ _ ((have HA3 := HA2.out.keep ((Below.refl _ _).alloc (Nat.le_refl _) (.cells #[.string ⟨m.code.toArray⟩, .string ⟨m.ctry.toArray⟩, .string ⟨(Lib.itoa m.qty).toArray⟩, .string ⟨(Lib.itoa m.amt).toArray⟩] 9)); ⟨HA3.cells.c7, HA3.cells.c8, HA3.cells.c9, HA3.cells.c10⟩)) (fun hHeld => ?_)
            clear hK K
            try simp only [Act.put, List.getElem_toArray, List.getElem_cons_succ, List.getElem_cons_zero, List.setIfInBounds_toArray, List.set_cons_zero, List.set_cons_succ]
            refine wpAnyH_ready (rs := [12]) (by kernel_rfl) (by simp) ?_
            refine AllReadyH.cons rfl (fun K hK => ?_) AllReadyH.nil
            go_simp
            refine (HS3.out _).mono ?_
            rintro e wB ⟨ue, rfl, hE, hbA⟩
            obtain ⟨xo, xc, rfl, _⟩ := hE.form
            replace HA2 := Lib.hid (HA2.out.keep hbA)
            have HE2 := Lib.hid hE
            clear hbA hE
            refine hK.out _ _ (⟨HA2.out.cells.c7, HA2.out.cells.c8, HA2.out.cells.c9, HA2.out.cells.c10⟩) (fun hHeld => ?_)
            clear hK K
            try simp only [Act.put, List.getElem_toArray, List.getElem_cons_succ, List.getElem_cons_zero, List.setIfInBounds_toArray, List.set_cons_zero, List.set_cons_succ]
            refine wpAnyH_ready (rs := [13]) (by kernel_rfl) (by simp) ?_
            refine AllReadyH.cons rfl (fun K hK => ?_) AllReadyH.nil
            go_simp
            have HA2b := Lib.hid (HA2.out.keep ((Below.refl wB.heap.size wB).alloc (Nat.le_refl _) (.cells #[.string ⟨#[71, 68, 83]⟩, .slice xo 4 xc] 49)))
            have HE2b := Lib.hid (HE2.out.keep fun _ hb1 => NotSeg.keep hb1 ((Below.refl wB.heap.size wB).alloc (Nat.le_refl _) (.cells #[.string ⟨#[71, 68, 83]⟩, .slice xo 4 xc] 49)))
            have hnn := news_two wB [71, 68, 83] (.slice xo 4 xc)
            unfold strV at hnn
            clear HA2 HE2
            refine hK.out _ _ (⟨HA2b.out.cells.c7, HA2b.out.cells.c8, HA2b.out.cells.c9, HA2b.out.cells.c10⟩) (fun hHeld => ?_)
            clear hK K
            try simp only [Act.put, List.getElem_toArray, List.getElem_cons_succ, List.getElem_cons_zero, List.setIfInBounds_toArray, List.set_cons_zero, List.set_cons_succ]
            refine wpAnyH_ready (rs := [14]) (by kernel_rfl) (by simp) ?_
            refine AllReadyH.cons rfl (fun K hK => ?_) AllReadyH.nil
            refine step_append_own rfl (.tmp 61) (.tmp 74) 35 rfl w.heap.size 49 i1 (.agg #[.string ⟨#[]⟩, .slice none 0 0]) 2 40 Tryd.underlying35 hj hy0 hy1 hy2 rfl (by decide) _ _ _ rfl HA2b.out.dec.row HA2b.out.dec.below.size (some ⟨wB.heap.size, 0, none⟩) 1 1 [Value.string ⟨#[71, 68, 83]⟩, .slice xo 4 xc] rfl rfl (fun h => by cases h) (fun ad had => by cases had; exact hnn) (by intro u hu; simp at hu; rcases hu with rfl | rfl <;> rfl) (by unfold maxLen; have := HA2b.out.len; omega) (by have := HA2b.out.len; omega) ?_
            intro v9 w9 hown9 hg9
            have HA4 := Lib.hid (HA2b.out.push (s := ⟨tGDS, [elS m.code, elS m.ctry, elS (Lib.itoa m.qty), elS (Lib.itoa m.amt)]⟩) hown9 hg9 HE2b.out (by show 3 ≤ maxLen; unfold maxLen; omega) hal.out)
            clear HA2b HE2b hown9 hg9 hnn
            refine hK.out _ _ (⟨HA4.out.cells.c7, HA4.out.cells.c8, HA4.out.cells.c9, HA4.out.cells.c10⟩) (fun hHeld => ?_)
            clear hK K
            try simp only [Act.put, List.getElem_toArray, List.getElem_cons_succ, List.getElem_cons_zero, List.setIfInBounds_toArray, List.set_cons_zero, List.set_cons_succ]
            refine wpAnyH_take (i := 15) (v := ?_) rfl (by kernel_rfl) (by kernel_rfl) (by kernel_rfl) (fun _ _ _ h => h) (Or.inl ⟨by rfl, ?_⟩) (by assumption) ?_
            rotate_left
            · intro wS hSw
              obtain ⟨hSw1, hSw2, hSw3, hSw4⟩ := hSw
              go_simp <;> with_reducible rfl
            try simp only [Act.put, List.getElem_toArray, List.getElem_cons_succ, List.getElem_cons_zero, List.setIfInBounds_toArray, List.set_cons_zero, List.set_cons_succ]
            refine wpAnyH_done (by kernel_rfl) ?_ _
            refine NoPanic.normal ?_
            clear hHeld
            go_wp2_with fail
            go_meet
            case rel => exact ⟨_, _, rfl, by rw [E.out, ← hacc2.out]; exact HA4⟩
        case rest =>
          clear HA1 HI1 HI2 HS3
          obtain ⟨u, us, rfl, HA1⟩ := hcut
          have c11 := HA1.out.cells.c11
          obtain ⟨bl, hbl⟩ : ∃ b, decide ((0 : Int) < (n : Int)) = b := ⟨_, rfl⟩
          have hbl2 : decide (0 < n) = bl := by rw [← hbl]; exact decide_eq_decide.2 (by omega)
          go_upto_if 79 with fail
          go_cut [5] (fun s5 wx => ∃ (u : Value) (us : List Value), u = s5 ∧ Hid (SgAt w wx m (.slice lo n lc) u us ((([rowS tMSG [m.kind, m.frm, m.to_, m.num, m.day]] ++ lotS_ m) ++ gdsS m) ++ lstS m)))
          case first =>
            cases bl with
            | false =>
              have E := Lib.hid (show lstS m = [] from if_pos (List.eq_nil_of_length_eq_zero (by have := HNn.out; have := of_decide_eq_false hbl2; omega)))
              go_wp2_with fail
              go_meet
              case rel => exact ⟨_, _, rfl, by rw [E.out, List.append_nil]; exact HA1⟩
            | true =>
              have E := Lib.hid (show lstS m = [⟨tLST, [m.list.map Lib.itoa]⟩] from if_neg (fun h => by have h1 := HNn.out; have := of_decide_eq_true hbl2; rw [h] at h1; simp at h1; omega))
              obtain ⟨acc, hacc⟩ : ∃ acc, acc = ([rowS tMSG [m.kind, m.frm, m.to_, m.num, m.day]] ++ lotS_ m) ++ gdsS m := ⟨_, rfl⟩
              have hal := Lib.hid (show acc.length < 6 from by rw [hacc]; have := lot_len m; have := gds_len m; simp only [List.length_append, List.length_cons, List.length_nil]; omega)
              rw [← hacc] at HA1
              have hacc2 := Lib.hid hacc
              clear hacc
              go_wp2_with fail
              refine (HT4.out _ (HLw.out.keep HA1.out.dec.below) HA1.out.dec.below).mono ?_
              rintro e w3 ⟨B1, rfl, hst, hb⟩
              have hbB := (Below.refl w3.heap.size w3).alloc (Nat.le_refl _) (.cells #[.slice (some ⟨B1, 0, none⟩) n n] 50)
              have hsz : (w3.alloc (.cells #[.slice (some ⟨B1, 0, none⟩) n n] 50)).heap.size = w3.heap.size + 1 := by simp
              have HA3 := Lib.hid ((HA1.out.keep hb).keep hbB)
              have HE3 := Lib.hid (els_one hst)
              have HA3b := Lib.hid (HA3.out.keep ((Below.refl _ _).alloc (Nat.le_refl _) (.cells #[.string ⟨#[76, 83, 84]⟩, .slice (some ⟨w3.heap.size, 0, none⟩) 1 1] 49)))
              have HE3b := Lib.hid (HE3.out.keep fun _ hb1 => NotSeg.keep hb1 ((Below.refl _ _).alloc (Nat.le_refl _) (.cells #[.string ⟨#[76, 83, 84]⟩, .slice (some ⟨w3.heap.size, 0, none⟩) 1 1] 49)))
              have hnn := news_two (w3.alloc (.cells #[.slice (some ⟨B1, 0, none⟩) n n] 50)) [76, 83, 84] (.slice (some ⟨w3.heap.size, 0, none⟩) 1 1)
              rw [hsz] at hnn
              unfold strV at hnn
              clear hst hb hbB hsz HA3 HE3 HA1 HT4 c11 hbl hbl2
              go_wp2_with (at_builtin; refine wpList_append_own _ rfl _ _ 35 rfl w.heap.size 49 i1 (.agg #[.string ⟨#[]⟩, .slice none 0 0]) 2 40 Tryd.underlying35 hj hy0 hy1 hy2 rfl (by decide) _ _ _ rfl HA3b.out.dec.row ⟨w3.heap.size + 1, 0, none⟩ 1 1 [Value.string ⟨#[76, 83, 84]⟩, .slice (some ⟨w3.heap.size, 0, none⟩) 1 1] rfl rfl hnn (by intro u hu; simp at hu; rcases hu with rfl | rfl <;> rfl) (by unfold maxLen; have := HA3b.out.len; omega) (by have := HA3b.out.len; omega) HA3b.out.dec.below.size ?_)
              intro v9 w9 hown9 hg9 _
              have HA4 := Lib.hid (HA3b.out.push (s := ⟨tLST, [m.list.map Lib.itoa]⟩) hown9 hg9 HE3b.out (by show 3 ≤ maxLen; unfold maxLen; omega) hal.out)
              clear HA3b HE3b hown9 hg9 hnn
              go_wp2_with fail
              go_meet
              case rel => exact ⟨_, _, rfl, by rw [E.out, ← hacc2.out]; exact HA4⟩
          case rest =>
            clear HA1 HT4 hbl hbl2 c11
            obtain ⟨u, us, rfl, HA1⟩ := hcut
            have c12 := HA1.out.cells.c12
            obtain ⟨bt, hbt⟩ : ∃ b, (m.text == []) = b := ⟨_, rfl⟩
            go_upto_if 90 with fail
            go_cut [5] (fun s5 wx => ∃ (u : Value) (us : List Value), u = s5 ∧ Hid (SgAt w wx m (.slice lo n lc) u us (frontS m)))
            case first =>
              cases bt with
              | true =>
                have E := Lib.hid (show txtS m = [] from if_pos (beq_iff_eq.1 hbt))
                go_wp2_with fail
                go_meet
                case rel => exact ⟨_, _, rfl, by unfold frontS; rw [E.out, List.append_nil]; exact HA1⟩
              | false =>
                have E := Lib.hid (show txtS m = [⟨tTXT, [elS m.text]⟩] from if_neg (beq_eq_false_iff_ne.1 hbt))
                obtain ⟨acc, hacc⟩ : ∃ acc, acc = (([rowS tMSG [m.kind, m.frm, m.to_, m.num, m.day]] ++ lotS_ m) ++ gdsS m) ++ lstS m := ⟨_, rfl⟩
                have hal := Lib.hid (show acc.length < 6 from by rw [hacc]; have := lot_len m; have := gds_len m; have := lst_len m; simp only [List.length_append, List.length_cons, List.length_nil]; omega)
                rw [← hacc] at HA1
                have hacc2 := Lib.hid hacc
                clear hacc
                go_wp2_with fail
                refine (HS5.out _).mono ?_
                rintro e w4 ⟨u, rfl, hE, hb⟩
                obtain ⟨xo, xc, rfl, _⟩ := hE.form
                have HA3 := Lib.hid (HA1.out.keep hb)
                have HE3 := Lib.hid hE
                clear hb hE HA1 HS5 c12 hbt
                have HA3b := Lib.hid (HA3.out.keep ((Below.refl w4.heap.size w4).alloc (Nat.le_refl _) (.cells #[.string ⟨#[84, 88, 84]⟩, .slice xo 1 xc] 49)))
                have HE3b := Lib.hid (HE3.out.keep fun _ hb1 => NotSeg.keep hb1 ((Below.refl w4.heap.size w4).alloc (Nat.le_refl _) (.cells #[.string ⟨#[84, 88, 84]⟩, .slice xo 1 xc] 49)))
                have hnn := news_two w4 [84, 88, 84] (.slice xo 1 xc)
                unfold strV at hnn
                clear HA3 HE3
                go_wp2_with (at_builtin; refine wpList_append_own _ rfl _ _ 35 rfl w.heap.size 49 i1 (.agg #[.string ⟨#[]⟩, .slice none 0 0]) 2 40 Tryd.underlying35 hj hy0 hy1 hy2 rfl (by decide) _ _ _ rfl HA3b.out.dec.row ⟨w4.heap.size, 0, none⟩ 1 1 [Value.string ⟨#[84, 88, 84]⟩, .slice xo 1 xc] rfl rfl hnn (by intro u hu; simp at hu; rcases hu with rfl | rfl <;> rfl) (by unfold maxLen; have := HA3b.out.len; omega) (by have := HA3b.out.len; omega) HA3b.out.dec.below.size ?_)
                intro v9 w9 hown9 hg9 _
                have HA4 := Lib.hid (HA3b.out.push (s := ⟨tTXT, [elS m.text]⟩) hown9 hg9 HE3b.out (by show 3 ≤ maxLen; unfold maxLen; omega) hal.out)
                clear HA3b HE3b hown9 hg9 hnn
                go_wp2_with fail
                go_meet
                case rel => exact ⟨_, _, rfl, by unfold frontS; rw [E.out, ← hacc2.out]; exact HA4⟩
            case rest =>
              clear HA1 HS5 hbt c12
              obtain ⟨u, us, rfl, HA1⟩ := hcut
              obtain ⟨acc, hacc⟩ : ∃ acc, acc = frontS m := ⟨_, rfl⟩
              have hal : acc.length < 6 := by rw [hacc]; have := front_len m; omega
              have hfin := Lib.hid (show segsM m = acc ++ [rowS tEND [(acc.length : Int) + 1, m.num]] from by rw [hacc]; rfl)
              rw [← hacc] at HA1
              obtain ⟨ao, cap, hu⟩ := HA1.out.slice
              obtain ⟨k, hk⟩ : ∃ k, acc.length = k := ⟨_, rfl⟩
              have HK := Lib.hid hk
              rw [hk] at hu hal hfin
              subst hu
              have c3 := HA1.out.cells.c3
              have HT := Lib.hid (HT6.out k (by omega))
              have hw1 : wrap64 ((k : Int) + 1) = (k : Int) + 1 := by unfold wrap64; omega
              clear hacc hk HT6
              go_wp2_with fail
              try rw [hw1]
              refine (HT.out _ (HLw.out.keep HA1.out.dec.below)).mono ?_
              rintro e w3 ⟨B1, rfl, hst, hb⟩
              have HA2 := Lib.hid (HA1.out.keep hb)
              have HS6' := Lib.hid (HS6.out _ _ _ hst)
              have HL6 := Lib.hid (show acc.length < 6 from by have := HK.out; omega)
              clear hb hst HA1 HT HS6 c3
              go_wp2_with fail
              refine HS6'.out.mono ?_
              rintro e w4 ⟨u, rfl, hE, hb⟩
              obtain ⟨xo, xc, rfl, _⟩ := hE.form
              have HA3 := Lib.hid (HA2.out.keep hb)
              have HE3 := Lib.hid hE
              clear hb hE HA2 HS6'
              have HA3b := Lib.hid (HA3.out.keep ((Below.refl w4.heap.size w4).alloc (Nat.le_refl _) (.cells #[.string ⟨#[69, 78, 68]⟩, .slice xo (rowS tEND [(k : Int) + 1, m.num]).els.length xc] 49)))
              have HE3b := Lib.hid (HE3.out.keep fun _ hb1 => NotSeg.keep hb1 ((Below.refl w4.heap.size w4).alloc (Nat.le_refl _) (.cells #[.string ⟨#[69, 78, 68]⟩, .slice xo (rowS tEND [(k : Int) + 1, m.num]).els.length xc] 49)))
              have hnn := news_two w4 [69, 78, 68] (.slice xo (rowS tEND [(k : Int) + 1, m.num]).els.length xc)
              unfold strV at hnn
              clear HA3 HE3
              go_wp2_with (at_builtin; refine wpList_append_own _ rfl _ _ 35 rfl w.heap.size 49 i1 (.agg #[.string ⟨#[]⟩, .slice none 0 0]) 2 40 Tryd.underlying35 hj hy0 hy1 hy2 rfl (by decide) _ _ _ rfl (by have h := HA3b.out.dec.row; rw [HK.out] at h; exact h) ⟨w4.heap.size, 0, none⟩ 1 1 [Value.string ⟨#[69, 78, 68]⟩, .slice xo (rowS tEND [(k : Int) + 1, m.num]).els.length xc] rfl rfl hnn (by intro u hu; simp at hu; rcases hu with rfl | rfl <;> rfl) (by unfold maxLen; have := HA3b.out.len; omega) (by have := HA3b.out.len; omega) HA3b.out.dec.below.size ?_)
              intro v9 w9 hown9 hg9 _
              have HA4 := Lib.hid (HA3b.out.push (s := rowS tEND [(k : Int) + 1, m.num]) (by rw [HK.out]; exact hown9) hg9 HE3b.out (by show 3 ≤ maxLen; unfold maxLen; omega) HL6.out)
              clear HA3b HE3b hown9 hg9 hnn
              go_wp2_with fail
              have hfin2 := HA4.out.dec.done
              rw [← hfin.out, ← HRR.out] at hfin2
              simp [bodyPost, results, Tryd.results17, go_sem]
              first | exact ⟨hfin2, HA4.out.dec.below⟩ | exact ⟨_, ⟨rfl, rfl⟩, hfin2, HA4.out.dec.below⟩
end Go.Proofs.YtepkihoakagidaaDoor
