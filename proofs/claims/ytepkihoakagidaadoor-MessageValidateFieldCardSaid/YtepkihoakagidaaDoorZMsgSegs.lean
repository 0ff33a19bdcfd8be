/- What Segments of the reference of layer 7 returns. Condition: the message is valid, its cells are known. -/
import Derived.Test.YtepkihoakagidaaDoorG4
import Derived.Deep.DeepCutAuto
namespace Go.Proofs.YtepkihoakagidaaDoor
open Go.RowKit

def lotT (m : Msg) : Bool := (m.lot != 0) || (m.other != 0)
def gdsT (m : Msg) : Bool := (!(m.code == [])) || ((!(m.ctry == [])) || ((m.qty != 0) || (m.amt != 0)))
/-- The two elements of a row. -/
theorem two_cells {W : World} {xo : Option Addr} {n xc : Nat} {e1 e2 : List (List UInt8)} (h : ElemsIn (NotSeg W) W (.slice xo n xc) [e1, e2]) :
    ∃ (us2 : List Value) (xad : Addr), xo = some xad ∧ us2.length = 2 * 1 ∧ (∀ j u, us2[j]? = some u → W.cell? (xad.add j) = some u) ∧ (∀ u ∈ us2, u.oneCell' = true) ∧ ∀ (i : Nat) (e : List (List UInt8)), [e1, e2][i]? = some e → ∃ u, us2[i]? = some u ∧ StrsIn (NotSeg W) W u e := by
  obtain ⟨us, ⟨h1, ⟨h2, h3⟩ | ⟨a, cap, h2, _, _, _, h3⟩⟩, h4⟩ := h
  · simp at h3
  · injection h2 with q1 _ _
    refine ⟨us, a, q1, h1, h3, fun u hu => ?_, h4⟩
    obtain ⟨i, hi, rfl⟩ := List.getElem_of_mem hu
    have h1' : us.length = 2 := h1
    have he : ∃ e, [e1, e2][i]? = some e := ⟨[e1, e2][i]'(by show i < 2; omega), List.getElem?_eq_getElem _⟩
    obtain ⟨e, he⟩ := he
    obtain ⟨u, h5, h6⟩ := h4 i e he
    rw [List.getElem?_eq_getElem hi] at h5
    injection h5 with h5
    obtain ⟨ao, c, h7, _⟩ := h6.form
    rw [h5, h7]
    rfl
set_option maxRecDepth 100000 in
set_option maxHeartbeats 3200000 in
theorem refSegs_any (m : Msg) (v : Value) (w : World) (h : MsgIn (Has_ w) w v m) (h0 : msgE m = 0) :
    Calls Tryd.prog 20 #[v] w fun e w' => ∃ u, e = .returned u ∧ SegsIn (Has_ w') w' u (segsM m) ∧ Below w.heap.size w w' := by
  obtain ⟨⟨vl, rfl, hN⟩, hcl, hyl, htl⟩ := h
  obtain ⟨g1, g2, g3, g4, g5, g6⟩ := msg_ok h0
  unfold rangeB at g1
  simp only [Bool.and_eq_true, decide_eq_true_eq] at g1
  obtain ⟨⟨a1, a2⟩, a3, a4, a5, a6, a7, a8, a9, a10⟩ := g1
  have n1 : amB m.kind = true := by simp [amB]; omega
  have n2 := inB_am a3 (by omega)
  have n3 := inB_am a4 (by omega)
  have n4 := inB_am a5 (by omega)
  have n5 := inB_am a6 (by omega)
  have n6 := inB_am a7 (by omega)
  have n7 := inB_am a8 (by omega)
  have n8 := inB_am a9 (by omega)
  have HR1 : Hid (∀ W : World, Calls Tryd.prog 45 #[.string ⟨#[77, 83, 71]⟩, .slice (some ⟨W.heap.size, 0, none⟩) 5 5] (W.alloc (.cells #[.int .i64 m.kind, .int .i64 m.frm, .int .i64 m.to_, .int .i64 m.num, .int .i64 m.day] 3)) fun e w' => ∃ u, e = .returned (.agg #[.string ⟨#[77, 83, 71]⟩, u]) ∧ ElemsIn (NotSeg w') w' u (rowS tMSG [m.kind, m.frm, m.to_, m.num, m.day]).els ∧ Below W.heap.size W w') := Lib.hid (fun W => row_new tMSG [m.kind, m.frm, m.to_, m.num, m.day] W (by simp [n1, n2, n3, n4, n5]) (by simp))
  have HR2 : Hid (∀ W : World, Calls Tryd.prog 45 #[.string ⟨#[76, 79, 84]⟩, .slice (some ⟨W.heap.size, 0, none⟩) 2 2] (W.alloc (.cells #[.int .i64 m.lot, .int .i64 m.other] 3)) fun e w' => ∃ u, e = .returned (.agg #[.string ⟨#[76, 79, 84]⟩, u]) ∧ ElemsIn (NotSeg w') w' u (rowS tLOT [m.lot, m.other]).els ∧ Below W.heap.size W w') := Lib.hid (fun W => row_new tLOT [m.lot, m.other] W (by simp [n6, n7]) (by simp))
  have HR3 : Hid (∀ W : World, Calls Tryd.prog 45 #[.string ⟨#[71, 68, 83]⟩, .slice (some ⟨W.heap.size, 0, none⟩) 2 2] (W.alloc (.cells #[.int .i64 m.qty, .int .i64 m.amt] 3)) fun e w' => ∃ u, e = .returned (.agg #[.string ⟨#[71, 68, 83]⟩, u]) ∧ ElemsIn (NotSeg w') w' u (rowS tGDS [m.qty, m.amt]).els ∧ Below W.heap.size W w') := Lib.hid (fun W => row_new tGDS [m.qty, m.amt] W (by simp [n8, a10]) (by simp))
  have HR4 : Hid (∀ (k : Nat) (_ : k ≤ 5) (W : World), Calls Tryd.prog 45 #[.string ⟨#[69, 78, 68]⟩, .slice (some ⟨W.heap.size, 0, none⟩) 2 2] (W.alloc (.cells #[.int .i64 ((k : Int) + 1), .int .i64 m.num] 3)) fun e w' => ∃ u, e = .returned (.agg #[.string ⟨#[69, 78, 68]⟩, u]) ∧ ElemsIn (NotSeg w') w' u (rowS tEND [(k : Int) + 1, m.num]).els ∧ Below W.heap.size W w') := Lib.hid (fun k hk W => row_new tEND [(k : Int) + 1, m.num] W (by simp only [List.all_cons, List.all_nil, n4, Bool.and_true]; simp [amB]; omega) (by simp))
  obtain ⟨lo, lc, rfl, hll, hcells⟩ := hN.form
  obtain ⟨n, hn⟩ : ∃ n, m.list.length = n := ⟨_, rfl⟩
  rw [hn] at hN hll
  have hnb : n ≤ 9223372036854775807 := by unfold maxLen at hll; omega
  have hB0 : Below w.heap.size w (w.alloc (.cells (msgCells m (.slice lo n lc)) 24)) := (Below.refl _ _).alloc (Nat.le_refl _) _
  have hbox : (w.alloc (.cells (msgCells m (.slice lo n lc)) 24)).heap[w.heap.size]? = some (.cells (msgCells m (.slice lo n lc)) 24 (0, 0)) := by
    show (w.heap.push _)[w.heap.size]? = some _
    simp
  have hM := MsgAt.of hbox
  have hNw := Lib.hid hN
  have H0 := Lib.hid (And.intro hB0 hbox)
  obtain ⟨c0, c1, c2, c3, c4, c5, c6, c7, c8, c9, c10, c11, c12⟩ := hM
  rw [hn]
  have HNn := Lib.hid hn
  clear hn hll
  have hlist := Lib.hid g6
  have hl64 := Lib.hid g4
  clear h0 a1 a2 a3 a4 a5 a6 a7 a8 a9 a10 n1 n2 n3 n4 n5 n6 n7 n8 hcells hB0 hbox hN g2 g3 g4 g5 g6
  obtain ⟨i1, hj, hy0, hy1, hy2⟩ := info_parts info_seg
  unfold msgV
  unfold msgCells at *
  unfold strV at *
  go_enter Tryd.func20, Tryd.ntmps20
  go_wp2_with fail
  have hsz : (w.alloc (.cells #[.int .i64 m.kind, .int .i64 m.frm, .int .i64 m.to_, .int .i64 m.num, .int .i64 m.day, .int .i64 m.lot, .int .i64 m.other, .string ⟨m.code.toArray⟩, .string ⟨m.ctry.toArray⟩, .int .i64 m.qty, .int .i64 m.amt, .slice lo n lc, .string ⟨m.text.toArray⟩] 24)).heap.size = w.heap.size + 1 := by simp
  generalize w.alloc (.cells #[.int .i64 m.kind, .int .i64 m.frm, .int .i64 m.to_, .int .i64 m.num, .int .i64 m.day, .int .i64 m.lot, .int .i64 m.other, .string ⟨m.code.toArray⟩, .string ⟨m.ctry.toArray⟩, .int .i64 m.qty, .int .i64 m.amt, .slice lo n lc, .string ⟨m.text.toArray⟩] 24) = W at *
  have h1 := HR1.out W
  rw [hsz] at h1
  refine h1.mono ?_
  rintro e w1 ⟨u, rfl, hE, hb⟩
  obtain ⟨xo, xc, rfl, _⟩ := hE.form
  obtain ⟨hB0, hbox⟩ := H0.out
  have hA1 := SgAt.first (s := rowS tMSG [m.kind, m.frm, m.to_, m.num, m.day]) (hB0.trans (hb.mono (by omega))) ((hb.block _ (by omega)).trans hbox) hNw.out hE (by show 3 ≤ maxLen; unfold maxLen; omega)
  unfold strV at hA1
  have HA1 := Lib.hid hA1
  have e1 : (rowS tMSG [m.kind, m.frm, m.to_, m.num, m.day]).tag = [77, 83, 71] := rfl
  rw [e1] at HA1
  clear hA1 h1 HR1 hB0 hbox H0 hNw hb hE hsz c0 c1 c2 c3 c4 c5 c6 c7 c8 c9 c10 c11 c12 e1
  go_upto_region 2 with fail
  generalize w1.alloc (.cells #[.string ⟨#[77, 83, 71]⟩, .slice xo (rowS tMSG [m.kind, m.frm, m.to_, m.num, m.day]).els.length xc] 49) = W2 at *
  generalize hL1 : Value.slice (some ⟨w1.heap.size, 0, none⟩) 1 1 = L1 at *
  go_cut [27] (fun s27 wx => s27 = .bool (lotT m) ∧ wx = W2)
  case first =>
    obtain ⟨c0, c1, c2, c3, c4, c5, c6, c7, c8, c9, c10, c11, c12⟩ := HA1.out.cells
    by_cases h5 : m.lot = 0
    · have d5 : (m.lot != 0) = false := by rw [h5]; rfl
      by_cases h6 : m.other = 0
      · have d6 : (m.other != 0) = false := by rw [h6]; rfl
        have hT : lotT m = false := by unfold lotT; rw [d5, d6]; rfl
        clear h5 h6
        go_wp2_with fail
        go_meet
        case rel => exact ⟨by rw [hT], rfl⟩
      · have d6 : (m.other != 0) = true := by rw [bne_iff_ne]; exact h6
        have hT : lotT m = true := by unfold lotT; rw [d5, d6]; rfl
        clear h5 h6
        go_wp2_with fail
        go_meet
        case rel => exact ⟨by rw [hT], rfl⟩
    · have d5 : (m.lot != 0) = true := by rw [bne_iff_ne]; exact h5
      have hT : lotT m = true := by unfold lotT; rw [d5]; rfl
      clear h5
      go_wp2_with fail
      go_meet
      case rel => exact ⟨by rw [hT], rfl⟩
  case rest =>
    obtain ⟨rfl, rfl⟩ := hcut
    go_upto_if 27 with fail
    go_cut [3] (fun s3 wx => ∃ (u : Value) (us : List Value), u = s3 ∧ Hid (SgAt w wx m (.slice lo n lc) u us ([rowS tMSG [m.kind, m.frm, m.to_, m.num, m.day]] ++ lotS_ m)))
    case first =>
      cases hT : lotT m with
      | false =>
        have e : lotS_ m = [] := by
          unfold lotT at hT
          rw [Bool.or_eq_false_iff, bne_eq_false_iff_eq, bne_eq_false_iff_eq] at hT
          exact if_pos hT
        have E := Lib.hid e
        clear hT e
        go_wp2_with fail
        go_meet
        case rel => exact ⟨_, _, rfl, by rw [E.out]; exact HA1⟩
      | true =>
        have e : lotS_ m = [rowS tLOT [m.lot, m.other]] := if_neg (fun h => by unfold lotT at hT; rw [h.1, h.2] at hT; cases hT)
        have E := Lib.hid e
        obtain ⟨c0, c1, c2, c3, c4, c5, c6, c7, c8, c9, c10, c11, c12⟩ := HA1.out.cells
        clear hT e
        go_wp2_with fail
        refine (HR2.out _).mono ?_
        rintro e w3 ⟨u, rfl, hE, hb⟩
        obtain ⟨xo, xc, rfl, _⟩ := hE.form
        have HA2 := Lib.hid (HA1.out.keep hb)
        have HE2 := Lib.hid hE
        clear hb hE c0 c1 c2 c3 c4 c5 c6 c7 c8 c9 c10 c11 c12
        have HA2b := Lib.hid (HA2.out.keep ((Below.refl w3.heap.size w3).alloc (Nat.le_refl _) (.cells #[.string ⟨#[76, 79, 84]⟩, .slice xo (rowS tLOT [m.lot, m.other]).els.length xc] 49)))
        have HE2b := Lib.hid (HE2.out.keep fun _ hb1 => NotSeg.keep hb1 ((Below.refl w3.heap.size w3).alloc (Nat.le_refl _) (.cells #[.string ⟨#[76, 79, 84]⟩, .slice xo (rowS tLOT [m.lot, m.other]).els.length xc] 49)))
        have hnn := news_two w3 [76, 79, 84] (.slice xo (rowS tLOT [m.lot, m.other]).els.length xc)
        unfold strV at hnn
        clear HA2 HE2
        go_wp2_with (at_builtin; refine wpList_append_own _ rfl _ _ 35 rfl w.heap.size 49 i1 (.agg #[.string ⟨#[]⟩, .slice none 0 0]) 2 40 Tryd.underlying35 hj hy0 hy1 hy2 rfl (by decide) _ 1 _ rfl HA2b.out.dec.row ⟨w3.heap.size, 0, none⟩ 1 1 [Value.string ⟨#[76, 79, 84]⟩, .slice xo (rowS tLOT [m.lot, m.other]).els.length xc] rfl rfl hnn (by intro u hu; simp at hu; rcases hu with rfl | rfl <;> rfl) (by unfold maxLen; have := HA2b.out.len; omega) (by have := HA2b.out.len; omega) HA2b.out.dec.below.size ?_)
        intro v9 w9 hown9 hg9 _
        have HA3 := Lib.hid (HA2b.out.push (s := rowS tLOT [m.lot, m.other]) hown9 hg9 HE2b.out (by show 3 ≤ maxLen; unfold maxLen; omega) (by simp))
        clear HA2b HE2b hown9 hg9 hnn
        go_wp2_with fail
        go_meet
        case rel => exact ⟨_, _, rfl, by rw [E.out]; exact HA3⟩
    case rest =>
      clear HA1 HR2
      obtain ⟨u, us, rfl, HA1⟩ := hcut
      go_upto_region 4 with fail
      go_cut [54] (fun s54 wx => s54 = .bool (gdsT m) ∧ wx = wc)
      case first =>
        obtain ⟨c0, c1, c2, c3, c4, c5, c6, c7, c8, c9, c10, c11, c12⟩ := HA1.out.cells
        obtain ⟨b1, h1⟩ : ∃ b, (m.code == []) = b := ⟨_, rfl⟩
        obtain ⟨b2, h2⟩ : ∃ b, (m.ctry == []) = b := ⟨_, rfl⟩
        obtain ⟨b3, h3⟩ : ∃ b, (m.qty != 0) = b := ⟨_, rfl⟩
        obtain ⟨b4, h4⟩ : ∃ b, (m.amt != 0) = b := ⟨_, rfl⟩
        have hT : Hid (gdsT m = ((!b1) || ((!b2) || (b3 || b4)))) := Lib.hid (by unfold gdsT; rw [h1, h2, h3, h4])
        cases b1
        · clear h2 h3 h4
          go_wp2_with fail
          go_meet
          case rel => exact ⟨by rw [hT.out]; rfl, rfl⟩
        · cases b2
          · clear h3 h4
            go_wp2_with fail
            go_meet
            case rel => exact ⟨by rw [hT.out]; rfl, rfl⟩
          · cases b3
            · cases b4
              all_goals
                go_wp2_with fail
                go_meet
                case rel => exact ⟨by rw [hT.out]; rfl, rfl⟩
            · clear h4
              go_wp2_with fail
              go_meet
              case rel => exact ⟨by rw [hT.out]; rfl, rfl⟩
      case rest =>
        obtain ⟨rfl, rfl⟩ := hcut
        go_upto_if 54 with fail
        go_cut [3] (fun s3 wx => ∃ (u : Value) (us : List Value), u = s3 ∧ Hid (SgAt w wx m (.slice lo n lc) u us (([rowS tMSG [m.kind, m.frm, m.to_, m.num, m.day]] ++ lotS_ m) ++ gdsS m)))
        case first =>
          cases hT : gdsT m with
          | false =>
            have e : gdsS m = [] := by
              unfold gdsT at hT
              simp only [Bool.or_eq_false_iff, bne_eq_false_iff_eq, Bool.not_eq_false', beq_iff_eq] at hT
              exact if_pos hT
            have E := Lib.hid e
            clear hT e
            go_wp2_with fail
            go_meet
            case rel => exact ⟨_, _, rfl, by rw [E.out, List.append_nil]; exact HA1⟩
          | true =>
            have e : gdsS m = [⟨tGDS, [elS m.code, elS m.ctry, elS (Lib.itoa m.qty), elS (Lib.itoa m.amt)]⟩] := if_neg (fun h => by unfold gdsT at hT; rw [h.1, h.2.1, h.2.2.1, h.2.2.2] at hT; cases hT)
            have E := Lib.hid e
            obtain ⟨c0, c1, c2, c3, c4, c5, c6, c7, c8, c9, c10, c11, c12⟩ := HA1.out.cells
            clear hT e
            go_wp2_with fail
            refine (HR3.out _).mono ?_
            rintro e w3 ⟨u9, rfl, hE, hb⟩
            obtain ⟨xo, xc, rfl, _⟩ := hE.form
            have HG := Lib.hid (GdAt.new (HA1.out.keep hb) [71, 68, 83] hE)
            clear hb hE c0 c1 c2 c3 c4 c5 c6 c7 c8 c9 c10 c11 c12
            go_upto_region 6 with fail
            generalize w3.alloc (.cells #[.string ⟨#[71, 68, 83]⟩, .slice xo (rowS tGDS [m.qty, m.amt]).els.length xc] 49) = W4 at *
            generalize w3.heap.size = B4 at *
            go_cut [3] (fun s3 wx => s3 = u ∧ ∃ x1, Hid (GdAt w wx m (.slice lo n lc) u us ([rowS tMSG [m.kind, m.frm, m.to_, m.num, m.day]] ++ lotS_ m) B4 [71, 68, 83] x1 [elS m.code, elS m.ctry, elS (Lib.itoa m.qty), elS (Lib.itoa m.amt)]))
            case first =>
              have HG0 := Lib.hid (HG.out.keep (w1 := W4.drew) (Below.refl _ _).drew)
              have HEc := Lib.hid (fun W => refElement_in m.code hcl W)
              have HEy := Lib.hid (fun W => refElement_in m.ctry hyl W)
              obtain ⟨⟨c0, f0⟩, c1, f1⟩ := HG0.out.cells
              obtain ⟨i2, hk, hx0, hx1, hx2⟩ := info_parts info_strs
              clear HG HA1 HR3 HR4
              unfold strV at HEc HEy
              refine wp_region_noPanic ?_
              refine wp_region_held_drew (S := fun w' => w'.cell? ⟨w.heap.size, 7, none⟩ = some (.string ⟨m.code.toArray⟩) ∧ w'.cell? ⟨w.heap.size, 8, none⟩ = some (.string ⟨m.ctry.toArray⟩)) (by kernel_rfl) ⟨HG0.out.sg.cells.c7, HG0.out.sg.cells.c8⟩ (fun hHeld => ?_)
              generalize W4.drew = W5 at *
              refine wpAnyH_take (i := 0) (v := ?_) rfl (by kernel_rfl) (by kernel_rfl) (by kernel_rfl) (fun _ _ _ h => h) (Or.inl ⟨by rfl, ?_⟩) (by assumption) ?_
              rotate_left
              · intro wS hSw
                obtain ⟨hSw1, hSw2⟩ := hSw
                go_simp <;> with_reducible rfl
              try simp only [Act.put, List.getElem_toArray, List.getElem_cons_zero, List.setIfInBounds_toArray, List.set_cons_zero, List.set_cons_succ]
              refine wpAnyH_take (i := 1) (v := ?_) rfl (by kernel_rfl) (by kernel_rfl) (by kernel_rfl) (fun _ _ _ h => h) (Or.inl ⟨by rfl, ?_⟩) (by assumption) ?_
              rotate_left
              · intro wS hSw
                obtain ⟨hSw1, hSw2⟩ := hSw
                go_simp <;> with_reducible rfl
              try simp only [Act.put, List.getElem_toArray, List.getElem_cons_succ, List.getElem_cons_zero, List.setIfInBounds_toArray, List.set_cons_zero, List.set_cons_succ]
              refine wpAnyH_take (i := 3) (v := ?_) rfl (by kernel_rfl) (by kernel_rfl) (by kernel_rfl) (fun _ _ _ h => h) (Or.inl ⟨by rfl, ?_⟩) (by assumption) ?_
              rotate_left
              · intro wS hSw
                obtain ⟨hSw1, hSw2⟩ := hSw
                go_simp <;> with_reducible rfl
              try simp only [Act.put, List.getElem_toArray, List.getElem_cons_succ, List.getElem_cons_zero, List.setIfInBounds_toArray, List.set_cons_zero, List.set_cons_succ]
              refine wpAnyH_take (i := 4) (v := ?_) rfl (by kernel_rfl) (by kernel_rfl) (by kernel_rfl) (fun _ _ _ h => h) (Or.inl ⟨by rfl, ?_⟩) (by assumption) ?_
              rotate_left
              · intro wS hSw
                obtain ⟨hSw1, hSw2⟩ := hSw
                go_simp <;> with_reducible rfl
              try simp only [Act.put, List.getElem_toArray, List.getElem_cons_succ, List.getElem_cons_zero, List.setIfInBounds_toArray, List.set_cons_zero, List.set_cons_succ]
              refine wpAnyH_take (i := 7) (v := ?_) rfl (by kernel_rfl) (by kernel_rfl) (by kernel_rfl) (fun _ _ _ h => h) (Or.inl ⟨by rfl, ?_⟩) (by assumption) ?_
              rotate_left
              · intro wS hSw
                obtain ⟨hSw1, hSw2⟩ := hSw
                go_simp <;> with_reducible rfl
              try simp only [Act.put, List.getElem_toArray, List.getElem_cons_succ, List.getElem_cons_zero, List.setIfInBounds_toArray, List.set_cons_zero, List.set_cons_succ]
              refine wpAnyH_ready (rs := [2, 8]) (by kernel_rfl) (by simp) ?_
              refine AllReadyH.cons rfl (fun K hK => ?_) (AllReadyH.cons rfl (fun K hK => ?_) AllReadyH.nil)
              · go_simp
                refine (HEc.out _).mono ?_
                rintro e wA ⟨u1, rfl, hst1, hbA⟩
                obtain ⟨o1, k1, rfl, _⟩ := hst1.form
                have HG1 := Lib.hid (HG0.out.keep hbA)
                have HT1 := Lib.hid hst1
                clear hst1 hbA c0 f0 c1 f1 hHeld HG0
                obtain ⟨⟨c0, f0⟩, c1, f1⟩ := HG1.out.cells
                go_wp2_with fail
                refine hK.out _ _ (⟨HG1.out.sg.cells.c7, HG1.out.sg.cells.c8⟩) (fun hHeld => ?_)
                clear hK K
                try simp only [Act.put, List.getElem_toArray, List.getElem_cons_succ, List.getElem_cons_zero, List.setIfInBounds_toArray, List.set_cons_zero, List.set_cons_succ]
                refine wpAnyH_ready (rs := [5, 8]) (by kernel_rfl) (by simp) ?_
                refine AllReadyH.cons rfl (fun K hK => ?_) (AllReadyH.cons rfl (fun K hK => ?_) AllReadyH.nil)
                · go_simp
                  refine (HEy.out _).mono ?_
                  rintro e wB ⟨u2, rfl, hst2, hbB⟩
                  obtain ⟨o2, k2, rfl, _⟩ := hst2.form
                  have HG2 := Lib.hid (HG1.out.keep hbB)
                  have HT2 := Lib.hid hst2
                  have HT3 := Lib.hid (HT1.out.keep fun _ hb1 => hb1.later hbB)
                  clear hst2 hbB HT1 c0 f0 c1 f1 hHeld HG1
                  obtain ⟨⟨c0, f0⟩, c1, f1⟩ := HG2.out.cells
                  go_wp2_with fail
                  refine hK.out _ _ (⟨HG2.out.sg.cells.c7, HG2.out.sg.cells.c8⟩) (fun hHeld => ?_)
                  clear hK K
                  try simp only [Act.put, List.getElem_toArray, List.getElem_cons_succ, List.getElem_cons_zero, List.setIfInBounds_toArray, List.set_cons_zero, List.set_cons_succ]
                  refine wpAnyH_ready (rs := [6, 8]) (by kernel_rfl) (by simp) ?_
                  refine AllReadyH.cons rfl (fun K hK => ?_) (AllReadyH.cons rfl (fun K hK => ?_) AllReadyH.nil)
                  · go_simp
                    have hbC := (Below.refl wB.heap.size wB).alloc (Nat.le_refl _) (.cells #[.slice o1 (elS m.code).length k1, .slice o2 (elS m.ctry).length k2] 50)
                    have HGc := Lib.hid (HG2.out.keep hbC)
                    clear c0 f0 c1 f1 hHeld
                    obtain ⟨⟨c0, f0⟩, c1, f1⟩ := HGc.out.cells
                    refine hK.out _ _ (⟨HGc.out.sg.cells.c7, HGc.out.sg.cells.c8⟩) (fun hHeld => ?_)
                    clear hK K
                    try simp only [Act.put, List.getElem_toArray, List.getElem_cons_succ, List.getElem_cons_zero, List.setIfInBounds_toArray, List.set_cons_zero, List.set_cons_succ]
                    refine wpAnyH_ready (rs := [8]) (by kernel_rfl) (by simp) ?_
                    refine AllReadyH.cons rfl (fun K hK => ?_) AllReadyH.nil
                    go_simp
                    refine hK.out _ _ (⟨HGc.out.sg.cells.c7, HGc.out.sg.cells.c8⟩) (fun hHeld => ?_)
                    clear hK K
                    try simp only [Act.put, List.getElem_toArray, List.getElem_cons_succ, List.getElem_cons_zero, List.setIfInBounds_toArray, List.set_cons_zero, List.set_cons_succ]
                    refine wpAnyH_ready (rs := [9]) (by kernel_rfl) (by simp) ?_
                    refine AllReadyH.cons rfl (fun K hK => ?_) AllReadyH.nil
                    obtain ⟨us2, xad, hxo, hus2, hcl2, hone2, hE2⟩ := two_cells (e1 := elS (Lib.itoa m.qty)) (e2 := elS (Lib.itoa m.amt)) HG2.out.els
                    subst hxo
                    have hown2 := World.ownsRow_lit (base := w.heap.size) (e := 50) (size := 1) wB #[.slice o1 (elS m.code).length k1, .slice o2 (elS m.ctry).length k2] 2 HG2.out.sg.dec.below.size (by unfold maxLen; omega) rfl
                    have hsB : w.heap.size ≤ (wB.alloc (.cells #[.slice o1 (elS m.code).length k1, .slice o2 (elS m.ctry).length k2] 50)).heap.size := Nat.le_trans HG2.out.sg.dec.below.size (by simp)
                    refine step_append_own rfl (.tmp 67) (.tmp 69) 47 rfl w.heap.size 50 i2 _ 1 24 Tryd.underlying47 hk hx0 hx1 hx2 rfl (by decide) _ 2 _ rfl hown2 hsB (some xad) 2 xc us2 rfl hus2 (fun h => by cases h) (fun ad had => by cases had; exact fun j u hj => cellAlloc2 (hcl2 j u hj)) hone2 (by unfold maxLen; omega) (by omega) ?_
                    intro v1 w6 own1 grow1
                    have hb6 : Below wB.heap.size wB w6 := ((Below.refl wB.heap.size wB).alloc (Nat.le_refl _) _).grown grow1 (by simp) (fun k hk => by cases hk; exact Nat.le_refl _)
                    have HG6 := Lib.hid (HG2.out.keep hb6)
                    have hE6 := els_joined (E := [elS (Lib.itoa m.qty), elS (Lib.itoa m.amt)]) hb6 HT3.out HT2.out hE2 own1 rfl
                    obtain ⟨so, sc, rfl, _⟩ := hE6.form
                    have HGs := Lib.hid (HG6.out.store hE6)
                    clear c0 f0 c1 f1
                    obtain ⟨⟨c0, f0⟩, c1, f1⟩ := HG6.out.cells
                    clear own1 grow1 hb6 hE6 hown2 hsB hcl2 hone2 hE2 hHeld
                    refine hK.out _ _ (⟨HG6.out.sg.cells.c7, HG6.out.sg.cells.c8⟩) (fun hHeld => ?_)
                    clear hK K
                    try simp only [Act.put, List.getElem_toArray, List.getElem_cons_succ, List.getElem_cons_zero, List.setIfInBounds_toArray, List.set_cons_zero, List.set_cons_succ]
                    refine wpAnyH_take (i := 10) (v := ?_) rfl (by kernel_rfl) (by kernel_rfl) (by kernel_rfl) (fun _ _ _ h => h) (Or.inl ⟨by rfl, ?_⟩) (by assumption) ?_
                    rotate_left
                    · intro wS hSw
                      obtain ⟨hSw1, hSw2⟩ := hSw
                      go_simp <;> with_reducible rfl
                    try simp only [Act.put, List.getElem_toArray, List.getElem_cons_succ, List.getElem_cons_zero, List.setIfInBounds_toArray, List.set_cons_zero, List.set_cons_succ]
                    refine wpAnyH_ready (rs := [11]) (by kernel_rfl) (by simp) ?_
                    refine AllReadyH.cons rfl (fun K hK => ?_) AllReadyH.nil
                    go_simp
                    refine hK.out _ _ (⟨HGs.out.sg.cells.c7, HGs.out.sg.cells.c8⟩) (fun hHeld => ?_)
                    clear hK K
                    try simp only [Act.put, List.getElem_toArray, List.getElem_cons_succ, List.getElem_cons_zero, List.setIfInBounds_toArray, List.set_cons_zero, List.set_cons_succ]
                    refine wpAnyH_done (by kernel_rfl) ?_ _
                    refine NoPanic.normal ?_
                    go_wp2_with fail
                    go_meet
                    case rel => exact ⟨rfl, _, HGs⟩
                  · go_simp
                    refine hK.out _ _ (⟨HG2.out.sg.cells.c7, HG2.out.sg.cells.c8⟩) (fun hHeld => ?_)
                    clear hK K
                    try simp only [Act.put, List.getElem_toArray, List.getElem_cons_succ, List.getElem_cons_zero, List.setIfInBounds_toArray, List.set_cons_zero, List.set_cons_succ]
                    refine wpAnyH_ready (rs := [6]) (by kernel_rfl) (by simp) ?_
                    refine AllReadyH.cons rfl (fun K hK => ?_) AllReadyH.nil
                    go_simp
                    have hbC := (Below.refl wB.heap.size wB).alloc (Nat.le_refl _) (.cells #[.slice o1 (elS m.code).length k1, .slice o2 (elS m.ctry).length k2] 50)
                    have HGc := Lib.hid (HG2.out.keep hbC)
                    clear c0 f0 c1 f1 hHeld
                    obtain ⟨⟨c0, f0⟩, c1, f1⟩ := HGc.out.cells
                    refine hK.out _ _ (⟨HGc.out.sg.cells.c7, HGc.out.sg.cells.c8⟩) (fun hHeld => ?_)
                    clear hK K
                    try simp only [Act.put, List.getElem_toArray, List.getElem_cons_succ, List.getElem_cons_zero, List.setIfInBounds_toArray, List.set_cons_zero, List.set_cons_succ]
                    refine wpAnyH_ready (rs := [9]) (by kernel_rfl) (by simp) ?_
                    refine AllReadyH.cons rfl (fun K hK => ?_) AllReadyH.nil
                    obtain ⟨us2, xad, hxo, hus2, hcl2, hone2, hE2⟩ := two_cells (e1 := elS (Lib.itoa m.qty)) (e2 := elS (Lib.itoa m.amt)) HG2.out.els
                    subst hxo
                    have hown2 := World.ownsRow_lit (base := w.heap.size) (e := 50) (size := 1) wB #[.slice o1 (elS m.code).length k1, .slice o2 (elS m.ctry).length k2] 2 HG2.out.sg.dec.below.size (by unfold maxLen; omega) rfl
                    have hsB : w.heap.size ≤ (wB.alloc (.cells #[.slice o1 (elS m.code).length k1, .slice o2 (elS m.ctry).length k2] 50)).heap.size := Nat.le_trans HG2.out.sg.dec.below.size (by simp)
                    refine step_append_own rfl (.tmp 67) (.tmp 69) 47 rfl w.heap.size 50 i2 _ 1 24 Tryd.underlying47 hk hx0 hx1 hx2 rfl (by decide) _ 2 _ rfl hown2 hsB (some xad) 2 xc us2 rfl hus2 (fun h => by cases h) (fun ad had => by cases had; exact fun j u hj => cellAlloc2 (hcl2 j u hj)) hone2 (by unfold maxLen; omega) (by omega) ?_
                    intro v1 w6 own1 grow1
                    have hb6 : Below wB.heap.size wB w6 := ((Below.refl wB.heap.size wB).alloc (Nat.le_refl _) _).grown grow1 (by simp) (fun k hk => by cases hk; exact Nat.le_refl _)
                    have HG6 := Lib.hid (HG2.out.keep hb6)
                    have hE6 := els_joined (E := [elS (Lib.itoa m.qty), elS (Lib.itoa m.amt)]) hb6 HT3.out HT2.out hE2 own1 rfl
                    obtain ⟨so, sc, rfl, _⟩ := hE6.form
                    have HGs := Lib.hid (HG6.out.store hE6)
                    clear c0 f0 c1 f1
                    obtain ⟨⟨c0, f0⟩, c1, f1⟩ := HG6.out.cells
                    clear own1 grow1 hb6 hE6 hown2 hsB hcl2 hone2 hE2 hHeld
                    refine hK.out _ _ (⟨HG6.out.sg.cells.c7, HG6.out.sg.cells.c8⟩) (fun hHeld => ?_)
                    clear hK K
                    try simp only [Act.put, List.getElem_toArray, List.getElem_cons_succ, List.getElem_cons_zero, List.setIfInBounds_toArray, List.set_cons_zero, List.set_cons_succ]
                    refine wpAnyH_take (i := 10) (v := ?_) rfl (by kernel_rfl) (by kernel_rfl) (by kernel_rfl) (fun _ _ _ h => h) (Or.inl ⟨by rfl, ?_⟩) (by assumption) ?_
                    rotate_left
                    · intro wS hSw
                      obtain ⟨hSw1, hSw2⟩ := hSw
                      go_simp <;> with_reducible rfl
                    try simp only [Act.put, List.getElem_toArray, List.getElem_cons_succ, List.getElem_cons_zero, List.setIfInBounds_toArray, List.set_cons_zero, List.set_cons_succ]
                    refine wpAnyH_ready (rs := [11]) (by kernel_rfl) (by simp) ?_
                    refine AllReadyH.cons rfl (fun K hK => ?_) AllReadyH.nil
                    go_simp
                    refine hK.out _ _ (⟨HGs.out.sg.cells.c7, HGs.out.sg.cells.c8⟩) (fun hHeld => ?_)
                    clear hK K
                    try simp only [Act.put, List.getElem_toArray, List.getElem_cons_succ, List.getElem_cons_zero, List.setIfInBounds_toArray, List.set_cons_zero, List.set_cons_succ]
                    refine wpAnyH_done (by kernel_rfl) ?_ _
                    refine NoPanic.normal ?_
                    go_wp2_with fail
                    go_meet
                    case rel => exact ⟨rfl, _, HGs⟩
                · go_simp
                  refine hK.out _ _ (⟨HG1.out.sg.cells.c7, HG1.out.sg.cells.c8⟩) (fun hHeld => ?_)
                  clear hK K
                  try simp only [Act.put, List.getElem_toArray, List.getElem_cons_succ, List.getElem_cons_zero, List.setIfInBounds_toArray, List.set_cons_zero, List.set_cons_succ]
                  refine wpAnyH_ready (rs := [5]) (by kernel_rfl) (by simp) ?_
                  refine AllReadyH.cons rfl (fun K hK => ?_) AllReadyH.nil
                  go_simp
                  refine (HEy.out _).mono ?_
                  rintro e wB ⟨u2, rfl, hst2, hbB⟩
                  obtain ⟨o2, k2, rfl, _⟩ := hst2.form
                  have HG2 := Lib.hid (HG1.out.keep hbB)
                  have HT2 := Lib.hid hst2
                  have HT3 := Lib.hid (HT1.out.keep fun _ hb1 => hb1.later hbB)
                  clear hst2 hbB HT1 c0 f0 c1 f1 hHeld HG1
                  obtain ⟨⟨c0, f0⟩, c1, f1⟩ := HG2.out.cells
                  go_wp2_with fail
                  refine hK.out _ _ (⟨HG2.out.sg.cells.c7, HG2.out.sg.cells.c8⟩) (fun hHeld => ?_)
                  clear hK K
                  try simp only [Act.put, List.getElem_toArray, List.getElem_cons_succ, List.getElem_cons_zero, List.setIfInBounds_toArray, List.set_cons_zero, List.set_cons_succ]
                  refine wpAnyH_ready (rs := [6]) (by kernel_rfl) (by simp) ?_
                  refine AllReadyH.cons rfl (fun K hK => ?_) AllReadyH.nil
                  go_simp
                  have hbC := (Below.refl wB.heap.size wB).alloc (Nat.le_refl _) (.cells #[.slice o1 (elS m.code).length k1, .slice o2 (elS m.ctry).length k2] 50)
                  have HGc := Lib.hid (HG2.out.keep hbC)
                  clear c0 f0 c1 f1 hHeld
                  obtain ⟨⟨c0, f0⟩, c1, f1⟩ := HGc.out.cells
                  refine hK.out _ _ (⟨HGc.out.sg.cells.c7, HGc.out.sg.cells.c8⟩) (fun hHeld => ?_)
                  clear hK K
                  try simp only [Act.put, List.getElem_toArray, List.getElem_cons_succ, List.getElem_cons_zero, List.setIfInBounds_toArray, List.set_cons_zero, List.set_cons_succ]
                  refine wpAnyH_ready (rs := [9]) (by kernel_rfl) (by simp) ?_
                  refine AllReadyH.cons rfl (fun K hK => ?_) AllReadyH.nil
                  obtain ⟨us2, xad, hxo, hus2, hcl2, hone2, hE2⟩ := two_cells (e1 := elS (Lib.itoa m.qty)) (e2 := elS (Lib.itoa m.amt)) HG2.out.els
                  subst hxo
                  have hown2 := World.ownsRow_lit (base := w.heap.size) (e := 50) (size := 1) wB #[.slice o1 (elS m.code).length k1, .slice o2 (elS m.ctry).length k2] 2 HG2.out.sg.dec.below.size (by unfold maxLen; omega) rfl
                  have hsB : w.heap.size ≤ (wB.alloc (.cells #[.slice o1 (elS m.code).length k1, .slice o2 (elS m.ctry).length k2] 50)).heap.size := Nat.le_trans HG2.out.sg.dec.below.size (by simp)
                  refine step_append_own rfl (.tmp 67) (.tmp 69) 47 rfl w.heap.size 50 i2 _ 1 24 Tryd.underlying47 hk hx0 hx1 hx2 rfl (by decide) _ 2 _ rfl hown2 hsB (some xad) 2 xc us2 rfl hus2 (fun h => by cases h) (fun ad had => by cases had; exact fun j u hj => cellAlloc2 (hcl2 j u hj)) hone2 (by unfold maxLen; omega) (by omega) ?_
                  intro v1 w6 own1 grow1
                  have hb6 : Below wB.heap.size wB w6 := ((Below.refl wB.heap.size wB).alloc (Nat.le_refl _) _).grown grow1 (by simp) (fun k hk => by cases hk; exact Nat.le_refl _)
                  have HG6 := Lib.hid (HG2.out.keep hb6)
                  have hE6 := els_joined (E := [elS (Lib.itoa m.qty), elS (Lib.itoa m.amt)]) hb6 HT3.out HT2.out hE2 own1 rfl
                  obtain ⟨so, sc, rfl, _⟩ := hE6.form
                  have HGs := Lib.hid (HG6.out.store hE6)
                  clear c0 f0 c1 f1
                  obtain ⟨⟨c0, f0⟩, c1, f1⟩ := HG6.out.cells
                  clear own1 grow1 hb6 hE6 hown2 hsB hcl2 hone2 hE2 hHeld
                  refine hK.out _ _ (⟨HG6.out.sg.cells.c7, HG6.out.sg.cells.c8⟩) (fun hHeld => ?_)
                  clear hK K
                  try simp only [Act.put, List.getElem_toArray, List.getElem_cons_succ, List.getElem_cons_zero, List.setIfInBounds_toArray, List.set_cons_zero, List.set_cons_succ]
                  refine wpAnyH_take (i := 10) (v := ?_) rfl (by kernel_rfl) (by kernel_rfl) (by kernel_rfl) (fun _ _ _ h => h) (Or.inl ⟨by rfl, ?_⟩) (by assumption) ?_
                  rotate_left
                  · intro wS hSw
                    obtain ⟨hSw1, hSw2⟩ := hSw
                    go_simp <;> with_reducible rfl
                  try simp only [Act.put, List.getElem_toArray, List.getElem_cons_succ, List.getElem_cons_zero, List.setIfInBounds_toArray, List.set_cons_zero, List.set_cons_succ]
                  refine wpAnyH_ready (rs := [11]) (by kernel_rfl) (by simp) ?_
                  refine AllReadyH.cons rfl (fun K hK => ?_) AllReadyH.nil
                  go_simp
                  refine hK.out _ _ (⟨HGs.out.sg.cells.c7, HGs.out.sg.cells.c8⟩) (fun hHeld => ?_)
                  clear hK K
                  try simp only [Act.put, List.getElem_toArray, List.getElem_cons_succ, List.getElem_cons_zero, List.setIfInBounds_toArray, List.set_cons_zero, List.set_cons_succ]
                  refine wpAnyH_done (by kernel_rfl) ?_ _
                  refine NoPanic.normal ?_
                  go_wp2_with fail
                  go_meet
                  case rel => exact ⟨rfl, _, HGs⟩
              · go_simp
                refine hK.out _ _ (⟨HG0.out.sg.cells.c7, HG0.out.sg.cells.c8⟩) (fun hHeld => ?_)
                clear hK K
                try simp only [Act.put, List.getElem_toArray, List.getElem_cons_succ, List.getElem_cons_zero, List.setIfInBounds_toArray, List.set_cons_zero, List.set_cons_succ]
                refine wpAnyH_ready (rs := [2]) (by kernel_rfl) (by simp) ?_
                refine AllReadyH.cons rfl (fun K hK => ?_) AllReadyH.nil
                go_simp
                refine (HEc.out _).mono ?_
                rintro e wA ⟨u1, rfl, hst1, hbA⟩
                obtain ⟨o1, k1, rfl, _⟩ := hst1.form
                have HG1 := Lib.hid (HG0.out.keep hbA)
                have HT1 := Lib.hid hst1
                clear hst1 hbA c0 f0 c1 f1 hHeld HG0
                obtain ⟨⟨c0, f0⟩, c1, f1⟩ := HG1.out.cells
                go_wp2_with fail
                refine hK.out _ _ (⟨HG1.out.sg.cells.c7, HG1.out.sg.cells.c8⟩) (fun hHeld => ?_)
                clear hK K
                try simp only [Act.put, List.getElem_toArray, List.getElem_cons_succ, List.getElem_cons_zero, List.setIfInBounds_toArray, List.set_cons_zero, List.set_cons_succ]
                refine wpAnyH_ready (rs := [5]) (by kernel_rfl) (by simp) ?_
                refine AllReadyH.cons rfl (fun K hK => ?_) AllReadyH.nil
                go_simp
                refine (HEy.out _).mono ?_
                rintro e wB ⟨u2, rfl, hst2, hbB⟩
                obtain ⟨o2, k2, rfl, _⟩ := hst2.form
                have HG2 := Lib.hid (HG1.out.keep hbB)
                have HT2 := Lib.hid hst2
                have HT3 := Lib.hid (HT1.out.keep fun _ hb1 => hb1.later hbB)
                clear hst2 hbB HT1 c0 f0 c1 f1 hHeld HG1
                obtain ⟨⟨c0, f0⟩, c1, f1⟩ := HG2.out.cells
                go_wp2_with fail
                refine hK.out _ _ (⟨HG2.out.sg.cells.c7, HG2.out.sg.cells.c8⟩) (fun hHeld => ?_)
                clear hK K
                try simp only [Act.put, List.getElem_toArray, List.getElem_cons_succ, List.getElem_cons_zero, List.setIfInBounds_toArray, List.set_cons_zero, List.set_cons_succ]
                refine wpAnyH_ready (rs := [6]) (by kernel_rfl) (by simp) ?_
                refine AllReadyH.cons rfl (fun K hK => ?_) AllReadyH.nil
                go_simp
                have hbC := (Below.refl wB.heap.size wB).alloc (Nat.le_refl _) (.cells #[.slice o1 (elS m.code).length k1, .slice o2 (elS m.ctry).length k2] 50)
                have HGc := Lib.hid (HG2.out.keep hbC)
                clear c0 f0 c1 f1 hHeld
                obtain ⟨⟨c0, f0⟩, c1, f1⟩ := HGc.out.cells
                refine hK.out _ _ (⟨HGc.out.sg.cells.c7, HGc.out.sg.cells.c8⟩) (fun hHeld => ?_)
                clear hK K
                try simp only [Act.put, List.getElem_toArray, List.getElem_cons_succ, List.getElem_cons_zero, List.setIfInBounds_toArray, List.set_cons_zero, List.set_cons_succ]
                refine wpAnyH_ready (rs := [9]) (by kernel_rfl) (by simp) ?_
                refine AllReadyH.cons rfl (fun K hK => ?_) AllReadyH.nil
                obtain ⟨us2, xad, hxo, hus2, hcl2, hone2, hE2⟩ := two_cells (e1 := elS (Lib.itoa m.qty)) (e2 := elS (Lib.itoa m.amt)) HG2.out.els
                subst hxo
                have hown2 := World.ownsRow_lit (base := w.heap.size) (e := 50) (size := 1) wB #[.slice o1 (elS m.code).length k1, .slice o2 (elS m.ctry).length k2] 2 HG2.out.sg.dec.below.size (by unfold maxLen; omega) rfl
                have hsB : w.heap.size ≤ (wB.alloc (.cells #[.slice o1 (elS m.code).length k1, .slice o2 (elS m.ctry).length k2] 50)).heap.size := Nat.le_trans HG2.out.sg.dec.below.size (by simp)
                refine step_append_own rfl (.tmp 67) (.tmp 69) 47 rfl w.heap.size 50 i2 _ 1 24 Tryd.underlying47 hk hx0 hx1 hx2 rfl (by decide) _ 2 _ rfl hown2 hsB (some xad) 2 xc us2 rfl hus2 (fun h => by cases h) (fun ad had => by cases had; exact fun j u hj => cellAlloc2 (hcl2 j u hj)) hone2 (by unfold maxLen; omega) (by omega) ?_
                intro v1 w6 own1 grow1
                have hb6 : Below wB.heap.size wB w6 := ((Below.refl wB.heap.size wB).alloc (Nat.le_refl _) _).grown grow1 (by simp) (fun k hk => by cases hk; exact Nat.le_refl _)
                have HG6 := Lib.hid (HG2.out.keep hb6)
                have hE6 := els_joined (E := [elS (Lib.itoa m.qty), elS (Lib.itoa m.amt)]) hb6 HT3.out HT2.out hE2 own1 rfl
                obtain ⟨so, sc, rfl, _⟩ := hE6.form
                have HGs := Lib.hid (HG6.out.store hE6)
                clear c0 f0 c1 f1
                obtain ⟨⟨c0, f0⟩, c1, f1⟩ := HG6.out.cells
                clear own1 grow1 hb6 hE6 hown2 hsB hcl2 hone2 hE2 hHeld
                refine hK.out _ _ (⟨HG6.out.sg.cells.c7, HG6.out.sg.cells.c8⟩) (fun hHeld => ?_)
                clear hK K
                try simp only [Act.put, List.getElem_toArray, List.getElem_cons_succ, List.getElem_cons_zero, List.setIfInBounds_toArray, List.set_cons_zero, List.set_cons_succ]
                refine wpAnyH_take (i := 10) (v := ?_) rfl (by kernel_rfl) (by kernel_rfl) (by kernel_rfl) (fun _ _ _ h => h) (Or.inl ⟨by rfl, ?_⟩) (by assumption) ?_
                rotate_left
                · intro wS hSw
                  obtain ⟨hSw1, hSw2⟩ := hSw
                  go_simp <;> with_reducible rfl
                try simp only [Act.put, List.getElem_toArray, List.getElem_cons_succ, List.getElem_cons_zero, List.setIfInBounds_toArray, List.set_cons_zero, List.set_cons_succ]
                refine wpAnyH_ready (rs := [11]) (by kernel_rfl) (by simp) ?_
                refine AllReadyH.cons rfl (fun K hK => ?_) AllReadyH.nil
                go_simp
                refine hK.out _ _ (⟨HGs.out.sg.cells.c7, HGs.out.sg.cells.c8⟩) (fun hHeld => ?_)
                clear hK K
                try simp only [Act.put, List.getElem_toArray, List.getElem_cons_succ, List.getElem_cons_zero, List.setIfInBounds_toArray, List.set_cons_zero, List.set_cons_succ]
                refine wpAnyH_done (by kernel_rfl) ?_ _
                refine NoPanic.normal ?_
                go_wp2_with fail
                go_meet
                case rel => exact ⟨rfl, _, HGs⟩
            case rest =>
              obtain ⟨h3, x1, HG7⟩ := hcut
              subst h3
              obtain ⟨xo7, xc7, rfl, _⟩ := HG7.out.els.form
              obtain ⟨⟨c0, _⟩, c1, _⟩ := HG7.out.cells
              have HA7 := Lib.hid HG7.out.sg
              have HE7 := Lib.hid HG7.out.els
              clear HG7 HG HA1
              have HA7b := Lib.hid (HA7.out.keep ((Below.refl wc.heap.size wc).alloc (Nat.le_refl _) (.cells #[.string ⟨#[71, 68, 83]⟩, .slice xo7 [elS m.code, elS m.ctry, elS (Lib.itoa m.qty), elS (Lib.itoa m.amt)].length xc7] 49)))
              have HE7b := Lib.hid (HE7.out.keep fun _ hb1 => NotSeg.keep hb1 ((Below.refl wc.heap.size wc).alloc (Nat.le_refl _) (.cells #[.string ⟨#[71, 68, 83]⟩, .slice xo7 [elS m.code, elS m.ctry, elS (Lib.itoa m.qty), elS (Lib.itoa m.amt)].length xc7] 49)))
              have hnn := news_two wc [71, 68, 83] (.slice xo7 [elS m.code, elS m.ctry, elS (Lib.itoa m.qty), elS (Lib.itoa m.amt)].length xc7)
              unfold strV at hnn
              clear HA7 HE7
              go_wp2_with (at_builtin; refine wpList_append_own _ rfl _ _ 35 rfl w.heap.size 49 i1 (.agg #[.string ⟨#[]⟩, .slice none 0 0]) 2 40 Tryd.underlying35 hj hy0 hy1 hy2 rfl (by decide) _ _ _ rfl HA7b.out.dec.row ⟨wc.heap.size, 0, none⟩ 1 1 [Value.string ⟨#[71, 68, 83]⟩, .slice xo7 [elS m.code, elS m.ctry, elS (Lib.itoa m.qty), elS (Lib.itoa m.amt)].length xc7] rfl rfl hnn (by intro u hu; simp at hu; rcases hu with rfl | rfl <;> rfl) (by unfold maxLen; have := HA7b.out.len; omega) (by have := HA7b.out.len; omega) HA7b.out.dec.below.size ?_)
              intro v9 w9 hown9 hg9 _
              have HA8 := Lib.hid (HA7b.out.push (s := ⟨tGDS, [elS m.code, elS m.ctry, elS (Lib.itoa m.qty), elS (Lib.itoa m.amt)]⟩) hown9 hg9 HE7b.out (by show 3 ≤ maxLen; unfold maxLen; omega) (by have := lot_len m; simp only [List.length_append, List.length_cons, List.length_nil]; omega))
              clear HA7b HE7b hown9 hg9 hnn
              go_wp2_with fail
              go_meet
              case rel => exact ⟨_, _, rfl, by rw [E.out]; exact HA8⟩
        case rest =>
          clear HA1 HR3
          obtain ⟨u, us, rfl, HA1⟩ := hcut
          obtain ⟨c0, c1, c2, c3, c4, c5, c6, c7, c8, c9, c10, c11, c12⟩ := HA1.out.cells
          have dl : decide (0 < (n : Int)) = decide (0 < n) := decide_eq_decide.2 (by omega)
          clear c0 c1 c2 c3 c4 c5 c6 c7 c8 c9 c10 c12
          go_upto_if 79 with fail
          go_cut [3] (fun s3 wx => ∃ (u : Value) (us : List Value), u = s3 ∧ Hid (SgAt w wx m (.slice lo n lc) u us ((([rowS tMSG [m.kind, m.frm, m.to_, m.num, m.day]] ++ lotS_ m) ++ gdsS m) ++ lstS m)))
          case first =>
            by_cases hz : n = 0
            · have hz2 : m.list = [] := List.eq_nil_of_length_eq_zero (HNn.out.trans hz)
              have E := Lib.hid (show lstS m = [] from if_pos hz2)
              clear hz2 dl
              subst hz
              go_wp2_with fail
              go_meet
              case rel => exact ⟨_, _, rfl, by rw [E.out, List.append_nil]; exact HA1⟩
            · have hz2 : m.list ≠ [] := fun h => hz (by rw [← HNn.out, h]; rfl)
              have E := Lib.hid (show lstS m = [⟨tLST, [m.list.map Lib.itoa]⟩] from if_neg hz2)
              have d0 : 0 < n := by omega
              obtain ⟨la, hla⟩ : ∃ a, lo = some a := by
                obtain ⟨_, ⟨q0, q⟩ | ⟨a2, cap2, q, _⟩⟩ := HA1.out.nums
                · have := HNn.out
                  omega
                · injection q with q1
                  exact ⟨a2, q1⟩
              subst hla
              have HS0 := HA1
              have HLn := Lib.hid (LsAt.new wc)
              have HC := Lib.hid (fun (i : Nat) (y : Int) (hy : m.list[i]? = some y) => show wc.cell? (la.add i) = some (.int .i64 y) from by
                obtain ⟨ao2, c2, q1, _, q2⟩ := HS0.out.nums.form
                injection q1 with q1 _ _
                obtain ⟨a3, q3, q4⟩ := q2 i y hy
                rw [q3] at q1
                injection q1 with q1
                rw [q1]
                exact q4)
              have HAll := Lib.hid (List.all_eq_true.1 hlist.out)
              clear hz hz2 HA1 dl
              generalize hW0 : wc = W0 at *
              clear hW0
              go_wp2_with fail
              generalize hBs : W0.heap.size + 1 = Bs at HLn ⊢
              generalize hBe : W0.heap.size = Be at HLn ⊢
              generalize (W0.alloc (.cells #[.slice none 0 0] 50)).alloc (.cells #[.string ⟨#[76, 83, 84]⟩, .slice (some ⟨Be, 0, none⟩) 1 1] 49) = W1 at HLn ⊢
              try rw [show decide (0 < n) = true from decide_eq_true d0]
              clear c11 d0
              go_loopw [6] (fun vi wx => ∃ (i : Nat) (vc : Value) (l : List (List UInt8)), vi = .int .i64 i ∧ i ≤ n ∧ Hid (l = (m.list.take i).map Lib.itoa) ∧ Hid (l.length = i) ∧ Hid (LsAt W0 wx Bs Be vc l)) (fun vi _ => n - (intOf vi).toNat)
              case atStart => exact ⟨0, _, [], by go_num, by omega, Lib.hid rfl, Lib.hid rfl, HLn⟩
              case round =>
                clear HLn
                obtain ⟨i, vc, l, rfl, hile, hl, hli, HL⟩ := hrel
                have c11 := (HS0.out.keep HL.out.below).cells.c11
                by_cases hlt : i < n
                · have d3 : decide ((i : Int) < (n : Int)) = true := decide_eq_true (by omega)
                  obtain ⟨y, hy⟩ : ∃ y, m.list[i]? = some y := ⟨_, List.getElem?_eq_getElem (by have := HNn.out; omega)⟩
                  have cx0 := HC.out i y hy
                  have cy := (HL.out.below.cell (World.block_lt_of_cell? _ _ cx0)).trans cx0
                  have hya := HAll.out y (List.mem_of_getElem? hy)
                  have hyl := itoa_len hya
                  have hylen : (Lib.itoa y).length ≤ maxLen := by unfold maxLen; omega
                  unfold amB at hya
                  simp only [Bool.and_eq_true, decide_eq_true_eq] at hya
                  have HN := Lib.hid (fun W => refNumber_any y hya.1 hya.2 W)
                  have HX := Lib.hid hylen
                  have hsucc := Lib.hid (show l ++ [Lib.itoa y] = (m.list.take (i + 1)).map Lib.itoa by rw [hl.out, List.take_add_one, hy]; simp)
                  have hlen2 := Lib.hid (show (l ++ [Lib.itoa y]).length = i + 1 by rw [List.length_append, hli.out]; rfl)
                  obtain ⟨vo, vcc, rfl⟩ := row_form HL.out.cur
                  obtain ⟨_, k1, k2⟩ := HL.out.cells
                  obtain ⟨i2, hk, hx0, hx1, hx2⟩ := info_parts info_str
                  have j1 : (0 : Int) ≤ (i : Int) := by omega
                  have j2 : (i : Int) < (n : Int) := by omega
                  have Hcx0 := Lib.hid cx0
                  have Hlb := Lib.hid (show l.length + 1 ≤ 1000000 by have := hli.out; have := hl64.out; have := HNn.out; omega)
                  clear hya hyl hy HC HAll hylen hl hli cx0
                  generalize Lib.itoa y = Y at *
                  unfold strV at HN
                  go_upto_region 13 with fail
                  refine wp_region_noPanic ?_
                  refine wp_region_held_drew (S := fun w' => w'.cell? ⟨Bs, 1, none⟩ = some (.slice (some ⟨Be, 0, none⟩) 1 1) ∧ w'.cell? ⟨w.heap.size, 11, none⟩ = some (.slice (some la) n lc) ∧ w'.cell? (la.add i) = some (.int .i64 y)) (by kernel_rfl) ⟨HL.out.cells.1.2, (HS0.out.keep HL.out.below).cells.c11, cy⟩ (fun hHeld => ?_)
                  have HL1 := Lib.hid (HL.out.keep (w1 := wr.drew) (Below.refl _ _).drew)
                  have HQ1 := Lib.hid HL1.out.below
                  have cx : wr.drew.cell? (la.add i) = some (.int .i64 y) := cy
                  clear k1 k2 HL
                  obtain ⟨_, k1, k2⟩ := HL1.out.cells
                  have k3 : True := trivial
                  refine wpAnyH_take (i := 0) (v := ?_) rfl (by kernel_rfl) (by kernel_rfl) (by kernel_rfl) (fun _ _ _ h => h) (Or.inl ⟨by rfl, ?_⟩) (by assumption) ?_
                  rotate_left
                  · intro wS hSw
                    obtain ⟨hSw1, hSw2, hSw3⟩ := hSw
                    go_simp <;> with_reducible rfl
                  try simp only [Act.put, List.getElem_toArray, List.getElem_cons_zero, List.setIfInBounds_toArray, List.set_cons_zero, List.set_cons_succ]
                  refine wpAnyH_take (i := 1) (v := ?_) rfl (by kernel_rfl) (by kernel_rfl) (by kernel_rfl) (fun _ _ _ h => h) (Or.inl ⟨by rfl, ?_⟩) (by assumption) ?_
                  rotate_left
                  · intro wS hSw
                    obtain ⟨hSw1, hSw2, hSw3⟩ := hSw
                    go_simp <;> with_reducible rfl
                  try simp only [Act.put, List.getElem_toArray, List.getElem_cons_succ, List.getElem_cons_zero, List.setIfInBounds_toArray, List.set_cons_zero, List.set_cons_succ]
                  refine wpAnyH_take (i := 2) (v := ?_) rfl (by kernel_rfl) (by kernel_rfl) (by kernel_rfl) (fun _ _ _ h => h) (Or.inl ⟨by rfl, ?_⟩) (by assumption) ?_
                  rotate_left
                  · intro wS hSw
                    obtain ⟨hSw1, hSw2, hSw3⟩ := hSw
                    go_simp <;> with_reducible rfl
                  try simp only [Act.put, List.getElem_toArray, List.getElem_cons_succ, List.getElem_cons_zero, List.setIfInBounds_toArray, List.set_cons_zero, List.set_cons_succ]
                  refine wpAnyH_take (i := 3) (v := ?_) rfl (by kernel_rfl) (by kernel_rfl) (by kernel_rfl) (fun _ _ _ h => h) (Or.inl ⟨by rfl, ?_⟩) (by assumption) ?_
                  rotate_left
                  · intro wS hSw
                    obtain ⟨hSw1, hSw2, hSw3⟩ := hSw
                    go_simp <;> with_reducible rfl
                  try simp only [Act.put, List.getElem_toArray, List.getElem_cons_succ, List.getElem_cons_zero, List.setIfInBounds_toArray, List.set_cons_zero, List.set_cons_succ]
                  refine wpAnyH_take (i := 4) (v := ?_) rfl (by kernel_rfl) (by kernel_rfl) (by kernel_rfl) (fun _ _ _ h => h) (Or.inl ⟨by rfl, ?_⟩) (by assumption) ?_
                  rotate_left
                  · intro wS hSw
                    obtain ⟨hSw1, hSw2, hSw3⟩ := hSw
                    go_simp <;> with_reducible rfl
                  try simp only [Act.put, List.getElem_toArray, List.getElem_cons_succ, List.getElem_cons_zero, List.setIfInBounds_toArray, List.set_cons_zero, List.set_cons_succ]
                  refine wpAnyH_take (i := 6) (v := ?_) rfl (by kernel_rfl) (by kernel_rfl) (by kernel_rfl) (fun _ _ _ h => h) (Or.inl ⟨by rfl, ?_⟩) (by assumption) ?_
                  rotate_left
                  · intro wS hSw
                    obtain ⟨hSw1, hSw2, hSw3⟩ := hSw
                    go_simp <;> with_reducible rfl
                  try simp only [Act.put, List.getElem_toArray, List.getElem_cons_succ, List.getElem_cons_zero, List.setIfInBounds_toArray, List.set_cons_zero, List.set_cons_succ]
                  refine wpAnyH_take (i := 7) (v := ?_) rfl (by kernel_rfl) (by kernel_rfl) (by kernel_rfl) (fun _ _ _ h => h) (Or.inl ⟨by rfl, ?_⟩) (by assumption) ?_
                  rotate_left
                  · intro wS hSw
                    obtain ⟨hSw1, hSw2, hSw3⟩ := hSw
                    go_simp <;> with_reducible rfl
                  try simp only [Act.put, List.getElem_toArray, List.getElem_cons_succ, List.getElem_cons_zero, List.setIfInBounds_toArray, List.set_cons_zero, List.set_cons_succ]
                  refine wpAnyH_take (i := 8) (v := ?_) rfl (by kernel_rfl) (by kernel_rfl) (by kernel_rfl) (fun _ _ _ h => h) (Or.inl ⟨by rfl, ?_⟩) (by assumption) ?_
                  rotate_left
                  · intro wS hSw
                    obtain ⟨hSw1, hSw2, hSw3⟩ := hSw
                    go_simp <;> with_reducible rfl
                  try simp only [Act.put, List.getElem_toArray, List.getElem_cons_succ, List.getElem_cons_zero, List.setIfInBounds_toArray, List.set_cons_zero, List.set_cons_succ]
                  refine wpAnyH_take (i := 9) (v := ?_) rfl (by kernel_rfl) (by kernel_rfl) (by kernel_rfl) (fun _ _ _ h => h) (Or.inl ⟨by rfl, ?_⟩) (by assumption) ?_
                  rotate_left
                  · intro wS hSw
                    obtain ⟨hSw1, hSw2, hSw3⟩ := hSw
                    go_simp <;> with_reducible rfl
                  try simp only [Act.put, List.getElem_toArray, List.getElem_cons_succ, List.getElem_cons_zero, List.setIfInBounds_toArray, List.set_cons_zero, List.set_cons_succ]
                  refine wpAnyH_take (i := 10) (v := ?_) rfl (by kernel_rfl) (by kernel_rfl) (by kernel_rfl) (fun _ _ _ h => h) (Or.inl ⟨by rfl, ?_⟩) (by assumption) ?_
                  rotate_left
                  · intro wS hSw
                    obtain ⟨hSw1, hSw2, hSw3⟩ := hSw
                    go_simp <;> with_reducible rfl
                  try simp only [Act.put, List.getElem_toArray, List.getElem_cons_succ, List.getElem_cons_zero, List.setIfInBounds_toArray, List.set_cons_zero, List.set_cons_succ]
                  refine wpAnyH_ready (rs := [5, 11]) (by kernel_rfl) (by simp) ?_
                  refine AllReadyH.cons rfl (fun K hK => ?_) (AllReadyH.cons rfl (fun K hK => ?_) AllReadyH.nil)
                  · go_simp
                    refine hK.out _ _ (hHeld) (fun hHeld => ?_)
                    clear hK K
                    try simp only [Act.put, List.getElem_toArray, List.getElem_cons_succ, List.getElem_cons_zero, List.setIfInBounds_toArray, List.set_cons_zero, List.set_cons_succ]
                    refine wpAnyH_ready (rs := [11]) (by kernel_rfl) (by simp) ?_
                    refine AllReadyH.cons rfl (fun K hK => ?_) AllReadyH.nil
                    go_simp
                    refine (HN.out _).mono ?_
                    rintro e wA ⟨rfl, hbA⟩
                    have HL2 := Lib.hid (HL1.out.keep hbA)
                    have HQ2 := Lib.hid (HQ1.out.trans (hbA.mono HQ1.out.size))
                    have cx2 := (hbA.cell (World.block_lt_of_cell? _ _ cx)).trans cx
                    clear hbA k1 k2 k3 hHeld
                    obtain ⟨_, k1, k2⟩ := HL2.out.cells
                    try go_wp2_with fail
                    refine hK.out _ _ (⟨HL2.out.cells.1.2, (HS0.out.keep HQ2.out).cells.c11, cx2⟩) (fun hHeld => ?_)
                    clear hK K
                    try simp only [Act.put, List.getElem_toArray, List.getElem_cons_succ, List.getElem_cons_zero, List.setIfInBounds_toArray, List.set_cons_zero, List.set_cons_succ]
                    refine wpAnyH_ready (rs := [12]) (by kernel_rfl) (by simp) ?_
                    refine AllReadyH.cons rfl (fun K hK => ?_) AllReadyH.nil
                    go_simp
                    have hbC := (Below.refl wA.heap.size wA).alloc (Nat.le_refl _) (.cells #[.string ⟨Y.toArray⟩] 9)
                    have HL3 := Lib.hid (HL2.out.keep hbC)
                    have HQ3 := Lib.hid (HQ2.out.trans (hbC.mono HQ2.out.size))
                    have cx3 := (hbC.cell (World.block_lt_of_cell? _ _ cx2)).trans cx2
                    clear hbC k1 k2 hHeld
                    obtain ⟨_, k1, k2⟩ := HL3.out.cells
                    refine hK.out _ _ (⟨HL3.out.cells.1.2, (HS0.out.keep HQ3.out).cells.c11, cx3⟩) (fun hHeld => ?_)
                    clear hK K
                    try simp only [Act.put, List.getElem_toArray, List.getElem_cons_succ, List.getElem_cons_zero, List.setIfInBounds_toArray, List.set_cons_zero, List.set_cons_succ]
                    refine wpAnyH_ready (rs := [13]) (by kernel_rfl) (by simp) ?_
                    refine AllReadyH.cons rfl (fun K hK => ?_) AllReadyH.nil
                    have hnn := one_newR wA (.string ⟨Y.toArray⟩) 9
                    refine step_append_own rfl (.tmp 94) (.tmp 101) 50 rfl W0.heap.size 9 i2 _ 1 16 Tryd.underlying50 hk hx0 hx1 hx2 rfl (by decide) _ _ _ rfl HL3.out.cur HL3.out.below.size (some ⟨wA.heap.size, 0, none⟩) 1 1 [.string ⟨Y.toArray⟩] rfl rfl (fun h => by cases h) (fun ad had => by cases had; exact hnn) (by intro u hu; simp at hu; rw [hu]; rfl) (by have := Hlb.out; unfold maxLen; omega) (by have := Hlb.out; omega) ?_
                    intro v1 w6 own1 grow1
                    obtain ⟨z1, z2, z3⟩ := HL3.out.midCells grow1
                    have hb6 := HL3.out.below.grown grow1 HL3.out.below.size fun k hk => (HL3.out.cur.lt k hk).1
                    have HP := Lib.hid (HL3.out.push (x := Y) own1 grow1 HX.out)
                    have cx6 : w6.cell? (la.add i) = some (.int .i64 y) := (hb6.cell (World.block_lt_of_cell? _ _ Hcx0.out)).trans Hcx0.out
                    have HQ6 := Lib.hid hb6
                    obtain ⟨so, sc, rfl⟩ := row_form own1
                    clear own1 grow1 hnn hb6 k1 k2 hHeld
                    refine hK.out _ _ (⟨z1, (HS0.out.keep HQ6.out).cells.c11, cx6⟩) (fun hHeld => ?_)
                    clear hK K
                    try simp only [Act.put, List.getElem_toArray, List.getElem_cons_succ, List.getElem_cons_zero, List.setIfInBounds_toArray, List.set_cons_zero, List.set_cons_succ]
                    refine wpAnyH_take (i := 14) (v := ?_) rfl (by kernel_rfl) (by kernel_rfl) (by kernel_rfl) (fun _ _ _ h => h) (Or.inl ⟨by rfl, ?_⟩) (by assumption) ?_
                    rotate_left
                    · intro wS hSw
                      obtain ⟨hSw1, hSw2, hSw3⟩ := hSw
                      go_simp <;> with_reducible rfl
                    try simp only [Act.put, List.getElem_toArray, List.getElem_cons_succ, List.getElem_cons_zero, List.setIfInBounds_toArray, List.set_cons_zero, List.set_cons_succ]
                    refine wpAnyH_ready (rs := [15]) (by kernel_rfl) (by simp) ?_
                    refine AllReadyH.cons rfl (fun K hK => ?_) AllReadyH.nil
                    go_simp
                    have cx7 : (w6.setCell ⟨Be, 0, none⟩ (.slice so (l.length + 1) sc)).cell? (la.add i) = some (.int .i64 y) := (HP.out.below.cell (World.block_lt_of_cell? _ _ Hcx0.out)).trans Hcx0.out
                    refine hK.out _ _ (⟨HP.out.cells.1.2, (HS0.out.keep HP.out.below).cells.c11, cx7⟩) (fun hHeld => ?_)
                    clear hK K
                    try simp only [Act.put, List.getElem_toArray, List.getElem_cons_succ, List.getElem_cons_zero, List.setIfInBounds_toArray, List.set_cons_zero, List.set_cons_succ]
                    refine wpAnyH_done (by kernel_rfl) ?_ _
                    refine NoPanic.normal ?_
                    clear HL3 HQ3 HQ6 z1 z2 z3 cx6 cx7 cx3 hHeld
                    go_wp2_with fail
                    go_roundw
                    case rel => exact ⟨i + 1, _, _, by go_num, by omega, hsucc, hlen2, HP⟩
                    case measure => simp [intOf]; omega
                  · go_simp
                    refine (HN.out _).mono ?_
                    rintro e wA ⟨rfl, hbA⟩
                    have HL2 := Lib.hid (HL1.out.keep hbA)
                    have HQ2 := Lib.hid (HQ1.out.trans (hbA.mono HQ1.out.size))
                    have cx2 := (hbA.cell (World.block_lt_of_cell? _ _ cx)).trans cx
                    clear hbA k1 k2 k3 hHeld
                    obtain ⟨_, k1, k2⟩ := HL2.out.cells
                    try go_wp2_with fail
                    refine hK.out _ _ (⟨HL2.out.cells.1.2, (HS0.out.keep HQ2.out).cells.c11, cx2⟩) (fun hHeld => ?_)
                    clear hK K
                    try simp only [Act.put, List.getElem_toArray, List.getElem_cons_succ, List.getElem_cons_zero, List.setIfInBounds_toArray, List.set_cons_zero, List.set_cons_succ]
                    refine wpAnyH_ready (rs := [5, 12]) (by kernel_rfl) (by simp) ?_
                    refine AllReadyH.cons rfl (fun K hK => ?_) (AllReadyH.cons rfl (fun K hK => ?_) AllReadyH.nil)
                    · go_simp
                      refine hK.out _ _ (hHeld) (fun hHeld => ?_)
                      clear hK K
                      try simp only [Act.put, List.getElem_toArray, List.getElem_cons_succ, List.getElem_cons_zero, List.setIfInBounds_toArray, List.set_cons_zero, List.set_cons_succ]
                      refine wpAnyH_ready (rs := [12]) (by kernel_rfl) (by simp) ?_
                      refine AllReadyH.cons rfl (fun K hK => ?_) AllReadyH.nil
                      go_simp
                      have hbC := (Below.refl wA.heap.size wA).alloc (Nat.le_refl _) (.cells #[.string ⟨Y.toArray⟩] 9)
                      have HL3 := Lib.hid (HL2.out.keep hbC)
                      have HQ3 := Lib.hid (HQ2.out.trans (hbC.mono HQ2.out.size))
                      have cx3 := (hbC.cell (World.block_lt_of_cell? _ _ cx2)).trans cx2
                      clear hbC k1 k2 hHeld
                      obtain ⟨_, k1, k2⟩ := HL3.out.cells
                      refine hK.out _ _ (⟨HL3.out.cells.1.2, (HS0.out.keep HQ3.out).cells.c11, cx3⟩) (fun hHeld => ?_)
                      clear hK K
                      try simp only [Act.put, List.getElem_toArray, List.getElem_cons_succ, List.getElem_cons_zero, List.setIfInBounds_toArray, List.set_cons_zero, List.set_cons_succ]
                      refine wpAnyH_ready (rs := [13]) (by kernel_rfl) (by simp) ?_
                      refine AllReadyH.cons rfl (fun K hK => ?_) AllReadyH.nil
                      have hnn := one_newR wA (.string ⟨Y.toArray⟩) 9
                      refine step_append_own rfl (.tmp 94) (.tmp 101) 50 rfl W0.heap.size 9 i2 _ 1 16 Tryd.underlying50 hk hx0 hx1 hx2 rfl (by decide) _ _ _ rfl HL3.out.cur HL3.out.below.size (some ⟨wA.heap.size, 0, none⟩) 1 1 [.string ⟨Y.toArray⟩] rfl rfl (fun h => by cases h) (fun ad had => by cases had; exact hnn) (by intro u hu; simp at hu; rw [hu]; rfl) (by have := Hlb.out; unfold maxLen; omega) (by have := Hlb.out; omega) ?_
                      intro v1 w6 own1 grow1
                      obtain ⟨z1, z2, z3⟩ := HL3.out.midCells grow1
                      have hb6 := HL3.out.below.grown grow1 HL3.out.below.size fun k hk => (HL3.out.cur.lt k hk).1
                      have HP := Lib.hid (HL3.out.push (x := Y) own1 grow1 HX.out)
                      have cx6 : w6.cell? (la.add i) = some (.int .i64 y) := (hb6.cell (World.block_lt_of_cell? _ _ Hcx0.out)).trans Hcx0.out
                      have HQ6 := Lib.hid hb6
                      obtain ⟨so, sc, rfl⟩ := row_form own1
                      clear own1 grow1 hnn hb6 k1 k2 hHeld
                      refine hK.out _ _ (⟨z1, (HS0.out.keep HQ6.out).cells.c11, cx6⟩) (fun hHeld => ?_)
                      clear hK K
                      try simp only [Act.put, List.getElem_toArray, List.getElem_cons_succ, List.getElem_cons_zero, List.setIfInBounds_toArray, List.set_cons_zero, List.set_cons_succ]
                      refine wpAnyH_take (i := 14) (v := ?_) rfl (by kernel_rfl) (by kernel_rfl) (by kernel_rfl) (fun _ _ _ h => h) (Or.inl ⟨by rfl, ?_⟩) (by assumption) ?_
                      rotate_left
                      · intro wS hSw
                        obtain ⟨hSw1, hSw2, hSw3⟩ := hSw
                        go_simp <;> with_reducible rfl
                      try simp only [Act.put, List.getElem_toArray, List.getElem_cons_succ, List.getElem_cons_zero, List.setIfInBounds_toArray, List.set_cons_zero, List.set_cons_succ]
                      refine wpAnyH_ready (rs := [15]) (by kernel_rfl) (by simp) ?_
                      refine AllReadyH.cons rfl (fun K hK => ?_) AllReadyH.nil
                      go_simp
                      have cx7 : (w6.setCell ⟨Be, 0, none⟩ (.slice so (l.length + 1) sc)).cell? (la.add i) = some (.int .i64 y) := (HP.out.below.cell (World.block_lt_of_cell? _ _ Hcx0.out)).trans Hcx0.out
                      refine hK.out _ _ (⟨HP.out.cells.1.2, (HS0.out.keep HP.out.below).cells.c11, cx7⟩) (fun hHeld => ?_)
                      clear hK K
                      try simp only [Act.put, List.getElem_toArray, List.getElem_cons_succ, List.getElem_cons_zero, List.setIfInBounds_toArray, List.set_cons_zero, List.set_cons_succ]
                      refine wpAnyH_done (by kernel_rfl) ?_ _
                      refine NoPanic.normal ?_
                      clear HL3 HQ3 HQ6 z1 z2 z3 cx6 cx7 cx3 hHeld
                      go_wp2_with fail
                      go_roundw
                      case rel => exact ⟨i + 1, _, _, by go_num, by omega, hsucc, hlen2, HP⟩
                      case measure => simp [intOf]; omega
                    · go_simp
                      have hbC := (Below.refl wA.heap.size wA).alloc (Nat.le_refl _) (.cells #[.string ⟨Y.toArray⟩] 9)
                      have HL3 := Lib.hid (HL2.out.keep hbC)
                      have HQ3 := Lib.hid (HQ2.out.trans (hbC.mono HQ2.out.size))
                      have cx3 := (hbC.cell (World.block_lt_of_cell? _ _ cx2)).trans cx2
                      clear hbC k1 k2 hHeld
                      obtain ⟨_, k1, k2⟩ := HL3.out.cells
                      refine hK.out _ _ (⟨HL3.out.cells.1.2, (HS0.out.keep HQ3.out).cells.c11, cx3⟩) (fun hHeld => ?_)
                      clear hK K
                      try simp only [Act.put, List.getElem_toArray, List.getElem_cons_succ, List.getElem_cons_zero, List.setIfInBounds_toArray, List.set_cons_zero, List.set_cons_succ]
                      refine wpAnyH_ready (rs := [5]) (by kernel_rfl) (by simp) ?_
                      refine AllReadyH.cons rfl (fun K hK => ?_) AllReadyH.nil
                      go_simp
                      refine hK.out _ _ (hHeld) (fun hHeld => ?_)
                      clear hK K
                      try simp only [Act.put, List.getElem_toArray, List.getElem_cons_succ, List.getElem_cons_zero, List.setIfInBounds_toArray, List.set_cons_zero, List.set_cons_succ]
                      refine wpAnyH_ready (rs := [13]) (by kernel_rfl) (by simp) ?_
                      refine AllReadyH.cons rfl (fun K hK => ?_) AllReadyH.nil
                      have hnn := one_newR wA (.string ⟨Y.toArray⟩) 9
                      refine step_append_own rfl (.tmp 94) (.tmp 101) 50 rfl W0.heap.size 9 i2 _ 1 16 Tryd.underlying50 hk hx0 hx1 hx2 rfl (by decide) _ _ _ rfl HL3.out.cur HL3.out.below.size (some ⟨wA.heap.size, 0, none⟩) 1 1 [.string ⟨Y.toArray⟩] rfl rfl (fun h => by cases h) (fun ad had => by cases had; exact hnn) (by intro u hu; simp at hu; rw [hu]; rfl) (by have := Hlb.out; unfold maxLen; omega) (by have := Hlb.out; omega) ?_
                      intro v1 w6 own1 grow1
                      obtain ⟨z1, z2, z3⟩ := HL3.out.midCells grow1
                      have hb6 := HL3.out.below.grown grow1 HL3.out.below.size fun k hk => (HL3.out.cur.lt k hk).1
                      have HP := Lib.hid (HL3.out.push (x := Y) own1 grow1 HX.out)
                      have cx6 : w6.cell? (la.add i) = some (.int .i64 y) := (hb6.cell (World.block_lt_of_cell? _ _ Hcx0.out)).trans Hcx0.out
                      have HQ6 := Lib.hid hb6
                      obtain ⟨so, sc, rfl⟩ := row_form own1
                      clear own1 grow1 hnn hb6 k1 k2 hHeld
                      refine hK.out _ _ (⟨z1, (HS0.out.keep HQ6.out).cells.c11, cx6⟩) (fun hHeld => ?_)
                      clear hK K
                      try simp only [Act.put, List.getElem_toArray, List.getElem_cons_succ, List.getElem_cons_zero, List.setIfInBounds_toArray, List.set_cons_zero, List.set_cons_succ]
                      refine wpAnyH_take (i := 14) (v := ?_) rfl (by kernel_rfl) (by kernel_rfl) (by kernel_rfl) (fun _ _ _ h => h) (Or.inl ⟨by rfl, ?_⟩) (by assumption) ?_
                      rotate_left
                      · intro wS hSw
                        obtain ⟨hSw1, hSw2, hSw3⟩ := hSw
                        go_simp <;> with_reducible rfl
                      try simp only [Act.put, List.getElem_toArray, List.getElem_cons_succ, List.getElem_cons_zero, List.setIfInBounds_toArray, List.set_cons_zero, List.set_cons_succ]
                      refine wpAnyH_ready (rs := [15]) (by kernel_rfl) (by simp) ?_
                      refine AllReadyH.cons rfl (fun K hK => ?_) AllReadyH.nil
                      go_simp
                      have cx7 : (w6.setCell ⟨Be, 0, none⟩ (.slice so (l.length + 1) sc)).cell? (la.add i) = some (.int .i64 y) := (HP.out.below.cell (World.block_lt_of_cell? _ _ Hcx0.out)).trans Hcx0.out
                      refine hK.out _ _ (⟨HP.out.cells.1.2, (HS0.out.keep HP.out.below).cells.c11, cx7⟩) (fun hHeld => ?_)
                      clear hK K
                      try simp only [Act.put, List.getElem_toArray, List.getElem_cons_succ, List.getElem_cons_zero, List.setIfInBounds_toArray, List.set_cons_zero, List.set_cons_succ]
                      refine wpAnyH_done (by kernel_rfl) ?_ _
                      refine NoPanic.normal ?_
                      clear HL3 HQ3 HQ6 z1 z2 z3 cx6 cx7 cx3 hHeld
                      go_wp2_with fail
                      go_roundw
                      case rel => exact ⟨i + 1, _, _, by go_num, by omega, hsucc, hlen2, HP⟩
                      case measure => simp [intOf]; omega
                · obtain rfl : i = n := by omega
                  have d3 : decide ((i : Int) < (i : Int)) = false := decide_eq_false (by omega)
                  have hll : l = m.list.map Lib.itoa := by rw [hl.out, ← HNn.out, List.take_length]
                  have HA7 := Lib.hid (HS0.out.keep HL.out.below)
                  have HE7 := Lib.hid (show ElemsIn (NotSeg wr) wr (.slice (some ⟨Be, 0, none⟩) 1 1) [m.list.map Lib.itoa] from by rw [← hll]; exact HL.out.els)
                  obtain ⟨⟨k0, k1⟩, _⟩ := HL.out.cells
                  clear HL hl hli hll
                  obtain ⟨acc, hacc⟩ : ∃ acc, acc = (([rowS tMSG [m.kind, m.frm, m.to_, m.num, m.day]] ++ lotS_ m) ++ gdsS m) := ⟨_, rfl⟩
                  have hal := Lib.hid (show acc.length < 6 from by rw [hacc]; have := lot_len m; have := gds_len m; simp only [List.length_append, List.length_cons, List.length_nil]; omega)
                  rw [← hacc] at HA7
                  have hacc2 := Lib.hid hacc
                  clear hacc
                  have HA7b := Lib.hid (HA7.out.keep ((Below.refl wr.heap.size wr).alloc (Nat.le_refl _) (.cells #[.string ⟨#[76, 83, 84]⟩, .slice (some ⟨Be, 0, none⟩) 1 1] 49)))
                  have HE7b := Lib.hid (HE7.out.keep fun _ hb1 => NotSeg.keep hb1 ((Below.refl wr.heap.size wr).alloc (Nat.le_refl _) (.cells #[.string ⟨#[76, 83, 84]⟩, .slice (some ⟨Be, 0, none⟩) 1 1] 49)))
                  have hnn := news_two wr [76, 83, 84] (.slice (some ⟨Be, 0, none⟩) 1 1)
                  unfold strV at hnn
                  clear HA7 HE7
                  go_wp2_with (at_builtin; refine wpList_append_own _ rfl _ _ 35 rfl w.heap.size 49 i1 (.agg #[.string ⟨#[]⟩, .slice none 0 0]) 2 40 Tryd.underlying35 hj hy0 hy1 hy2 rfl (by decide) _ _ _ rfl HA7b.out.dec.row ⟨wr.heap.size, 0, none⟩ 1 1 [Value.string ⟨#[76, 83, 84]⟩, .slice (some ⟨Be, 0, none⟩) 1 1] rfl rfl hnn (by intro u hu; simp at hu; rcases hu with rfl | rfl <;> rfl) (by unfold maxLen; have := HA7b.out.len; omega) (by have := HA7b.out.len; omega) HA7b.out.dec.below.size ?_)
                  intro v9 w9 hown9 hg9 _
                  have HA8 := Lib.hid (HA7b.out.push (s := ⟨tLST, [m.list.map Lib.itoa]⟩) hown9 hg9 HE7b.out (by show 3 ≤ maxLen; unfold maxLen; omega) hal.out)
                  clear HA7b HE7b hown9 hg9 hnn
                  go_wp2_with fail
                  go_meet
                  case rel => exact ⟨_, _, rfl, by rw [E.out, ← hacc2.out]; exact HA8⟩
          case rest =>
            clear HA1
            obtain ⟨u, us, rfl, HA1⟩ := hcut
            have c12 := HA1.out.cells.c12
            have HEt := Lib.hid (fun W => refElement_in m.text htl W)
            unfold strV at HEt
            obtain ⟨bt, hbt⟩ : ∃ b, (m.text == []) = b := ⟨_, rfl⟩
            go_upto_if 110 with fail
            go_cut [3] (fun s3 wx => ∃ (u : Value) (us : List Value), u = s3 ∧ Hid (SgAt w wx m (.slice lo n lc) u us (frontS m)))
            case first =>
              cases bt with
              | true =>
                have E := Lib.hid (show txtS m = [] from if_pos (beq_iff_eq.1 hbt))
                go_wp2_with fail
                go_meet
                case rel => exact ⟨_, _, rfl, by unfold frontS; rw [E.out, List.append_nil]; exact HA1⟩
              | false =>
                have E := Lib.hid (show txtS m = [⟨tTXT, [elS m.text]⟩] from if_neg (beq_eq_false_iff_ne.1 hbt))
                go_wp2_with fail
                refine (HEt.out _).mono ?_
                rintro e wA ⟨u1, rfl, hst, hbA⟩
                obtain ⟨o1, k1, rfl, _⟩ := hst.form
                have hbB := (Below.refl wA.heap.size wA).alloc (Nat.le_refl _) (.cells #[.slice o1 (elS m.text).length k1] 50)
                have hsz : (wA.alloc (.cells #[.slice o1 (elS m.text).length k1] 50)).heap.size = wA.heap.size + 1 := by simp
                have HA7 := Lib.hid ((HA1.out.keep hbA).keep hbB)
                have HE7 := Lib.hid (els_one hst)
                obtain ⟨acc, hacc⟩ : ∃ acc, acc = ((([rowS tMSG [m.kind, m.frm, m.to_, m.num, m.day]] ++ lotS_ m) ++ gdsS m) ++ lstS m) := ⟨_, rfl⟩
                have hal := Lib.hid (show acc.length < 6 from by rw [hacc]; have := lot_len m; have := gds_len m; have := lst_len m; simp only [List.length_append, List.length_cons, List.length_nil]; omega)
                rw [← hacc] at HA7
                have hacc2 := Lib.hid hacc
                have HA7b := Lib.hid (HA7.out.keep ((Below.refl _ _).alloc (Nat.le_refl _) (.cells #[.string ⟨#[84, 88, 84]⟩, .slice (some ⟨wA.heap.size, 0, none⟩) 1 1] 49)))
                have HE7b := Lib.hid (HE7.out.keep fun _ hb1 => NotSeg.keep hb1 ((Below.refl _ _).alloc (Nat.le_refl _) (.cells #[.string ⟨#[84, 88, 84]⟩, .slice (some ⟨wA.heap.size, 0, none⟩) 1 1] 49)))
                have hnn := news_two (wA.alloc (.cells #[.slice o1 (elS m.text).length k1] 50)) [84, 88, 84] (.slice (some ⟨wA.heap.size, 0, none⟩) 1 1)
                rw [hsz] at hnn
                unfold strV at hnn
                clear hacc HA7 HE7 hst hbA hbB hsz c12 HEt hbt
                go_wp2_with (at_builtin; refine wpList_append_own _ rfl _ _ 35 rfl w.heap.size 49 i1 (.agg #[.string ⟨#[]⟩, .slice none 0 0]) 2 40 Tryd.underlying35 hj hy0 hy1 hy2 rfl (by decide) _ _ _ rfl HA7b.out.dec.row ⟨wA.heap.size + 1, 0, none⟩ 1 1 [Value.string ⟨#[84, 88, 84]⟩, .slice (some ⟨wA.heap.size, 0, none⟩) 1 1] rfl rfl hnn (by intro u hu; simp at hu; rcases hu with rfl | rfl <;> rfl) (by unfold maxLen; have := HA7b.out.len; omega) (by have := HA7b.out.len; omega) HA7b.out.dec.below.size ?_)
                intro v9 w9 hown9 hg9 _
                have HA8 := Lib.hid (HA7b.out.push (s := ⟨tTXT, [elS m.text]⟩) hown9 hg9 HE7b.out (by show 3 ≤ maxLen; unfold maxLen; omega) hal.out)
                clear HA7b HE7b hown9 hg9 hnn
                go_wp2_with fail
                go_meet
                case rel => exact ⟨_, _, rfl, by unfold frontS; rw [E.out, ← hacc2.out]; exact HA8⟩
            case rest =>
              clear HA1 HEt hbt c12
              obtain ⟨u, us, rfl, HA1⟩ := hcut
              obtain ⟨acc, hacc⟩ : ∃ acc, acc = frontS m := ⟨_, rfl⟩
              have hal : acc.length < 6 := by rw [hacc]; have := front_len m; omega
              have hfin := Lib.hid (show segsM m = acc ++ [rowS tEND [(acc.length : Int) + 1, m.num]] from by rw [hacc]; rfl)
              rw [← hacc] at HA1
              obtain ⟨ao, cap, hu⟩ := HA1.out.slice
              obtain ⟨k, hk⟩ : ∃ k, acc.length = k := ⟨_, rfl⟩
              have HK := Lib.hid hk
              rw [hk] at hu hal hfin
              subst hu
              have c3 := HA1.out.cells.c3
              have HR := Lib.hid (HR4.out k (by omega))
              have hw1 : wrap64 ((k : Int) + 1) = (k : Int) + 1 := by unfold wrap64; omega
              clear hacc hk HR4
              go_wp2_with fail
              try rw [hw1]
              refine (HR.out _).mono ?_
              rintro e w3 ⟨u1, rfl, hE, hb⟩
              obtain ⟨xo, xc, rfl, _⟩ := hE.form
              have HA2 := Lib.hid (HA1.out.keep hb)
              have HE2 := Lib.hid hE
              have HL6 := Lib.hid (show acc.length < 6 from by have := HK.out; omega)
              clear hb hE c3 HA1 HR
              have HA2b := Lib.hid (HA2.out.keep ((Below.refl w3.heap.size w3).alloc (Nat.le_refl _) (.cells #[.string ⟨#[69, 78, 68]⟩, .slice xo (rowS tEND [(k : Int) + 1, m.num]).els.length xc] 49)))
              have HE2b := Lib.hid (HE2.out.keep fun _ hb1 => NotSeg.keep hb1 ((Below.refl w3.heap.size w3).alloc (Nat.le_refl _) (.cells #[.string ⟨#[69, 78, 68]⟩, .slice xo (rowS tEND [(k : Int) + 1, m.num]).els.length xc] 49)))
              have hnn := news_two w3 [69, 78, 68] (.slice xo (rowS tEND [(k : Int) + 1, m.num]).els.length xc)
              unfold strV at hnn
              clear HA2 HE2
              go_wp2_with (at_builtin; refine wpList_append_own _ rfl _ _ 35 rfl w.heap.size 49 i1 (.agg #[.string ⟨#[]⟩, .slice none 0 0]) 2 40 Tryd.underlying35 hj hy0 hy1 hy2 rfl (by decide) _ _ _ rfl (by have h := HA2b.out.dec.row; rw [HK.out] at h; exact h) ⟨w3.heap.size, 0, none⟩ 1 1 [Value.string ⟨#[69, 78, 68]⟩, .slice xo (rowS tEND [(k : Int) + 1, m.num]).els.length xc] rfl rfl hnn (by intro u hu; simp at hu; rcases hu with rfl | rfl <;> rfl) (by unfold maxLen; have := HA2b.out.len; omega) (by have := HA2b.out.len; omega) HA2b.out.dec.below.size ?_)
              intro v9 w9 hown9 hg9 _
              have HA3 := Lib.hid (HA2b.out.push (s := rowS tEND [(k : Int) + 1, m.num]) (by rw [HK.out]; exact hown9) hg9 HE2b.out (by show 3 ≤ maxLen; unfold maxLen; omega) HL6.out)
              clear HA2b HE2b hown9 hg9 hnn
              go_wp2_with fail
              go_ret
              refine ⟨_, rfl, ?_, HA3.out.dec.below⟩
              rw [hfin.out]
              exact HA3.out.dec.done
end Go.Proofs.YtepkihoakagidaaDoor
